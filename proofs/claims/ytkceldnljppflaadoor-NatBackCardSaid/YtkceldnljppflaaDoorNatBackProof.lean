/-
  For all slices of 32-bit numbers a and b and every string s: the law NatBack returns true (for at most 40 digits and 400 bytes: a sum less one of its numbers is the other one; a quotient times the divisor, and what is left, is the number; a text comes back) and leaves all as they were. No condition.
-/
import Derived.Test.YtkceldnljppflaaDoorRows
import Derived.Test.YtkceldnljppflaaDoorCards
import Derived.Test.YtkceldnljppflaaDoorTie
import Derived.LaidMore
import Derived.Lay
import Derived.SevenTiedAt
import Derived.WalkKit
import Derived.ProofKit
import Derived.OpenShut
import Derived.ShutString
import Derived.ChangeOld
import Derived.Below
import Derived.Test.YtkceldnljppflaaDoorLaw02
namespace Go.Proofs.YtkceldnljppflaaDoor.natBack
open Go.ChangeShapes Go.WideShapes Go.ChangeAt Go.RowKit
open Go.ChangeMaps (open_string shut_string)
open Go.Proofs.YtkceldnljppflaaDoor.Dig
open Go.Proofs.YtkceldnljppflaaDoor.Law02
open Go.Proofs.YtkceldnljppflaaDoor.Ref02 (textD parseD)
set_option linter.unusedVariables false

theorem own : ownKnob Tryd.prog.godebug = none := by kernel_rfl
theorem laidOut : laidOutB Tryd.prog = true := by kernel_rfl

/-- WHAT THE WALK IS TOLD OF A SLICE OF INTEGERS THAT CAME IN: it is nil; or it leads to a row of 'cap' cells, the numbers 'zs' (the first 'len' are its elements, the rest its spare room), each fitting its kind. -/
def IsRow (k : IntKind) (w : World) (a : Option Addr) (len cap : Nat) (zs : List Int) : Prop :=
  (a = none ∧ len = 0 ∧ cap = 0 ∧ zs = []) ∨
  ∃ x, a = some x ∧ len ≤ cap ∧ cap ≤ maxLen ∧ zs.length = cap ∧ (∀ i, i < zs.length → w.cell? (x.add i) = some (.int k (zs.getD i 0))) ∧ ∀ n ∈ zs, (Lit.int k n).wf = true

set_option maxRecDepth 100000 in
set_option maxHeartbeats 4000000 in
theorem walk (a0 : Option Addr) (len0 cap0 : Nat) (z0 : List Int) (a1 : Option Addr) (len1 cap1 : Nat) (z1 : List Int) (a2 : ByteArray) (w : World) (w0 : IsRow .u32 w a0 len0 cap0 z0) (w1 : IsRow .u32 w a1 len1 cap1 z1) (w2 : a2.size ≤ maxLen) :
    Calls Tryd.prog 9 #[.slice a0 len0 cap0, .slice a1 len1 cap1, .string a2] w fun e w' => e = .returned (.bool true) ∧ Since w w' := by
  obtain ⟨d0, hl0, hr0⟩ := row_in w0
  have R0 := Lib.hid hr0
  obtain ⟨d1, hl1, hr1⟩ := row_in w1
  have R1 := Lib.hid hr1
  clear w0 hr0 w1 hr1
  have hS := Since.refl w
  by_cases g0 : 40 < len0
  · go_enter Tryd.func9, Tryd.ntmps9
    go_wp2_with (first
      | (go_at_call 11; (with_reducible refine (Law02.alive _).mono ?_); rintro e v0 ⟨rfl, hv0⟩; have hS := hS.trans hv0)
      | (go_at_call 12; (with_reducible refine (Law02.few_no _ _ _ _ _ _ _ (by omega)).mono ?_); rintro e vf ⟨rfl, rfl⟩))
    go_ret
    exact ⟨rfl, hS⟩
  by_cases g1 : 40 < len1
  · go_enter Tryd.func9, Tryd.ntmps9
    go_wp2_with (first
      | (go_at_call 11; (with_reducible refine (Law02.alive _).mono ?_); rintro e v0 ⟨rfl, hv0⟩; have hS := hS.trans hv0)
      | (go_at_call 12; (with_reducible refine (Law02.few_no _ _ _ _ _ _ _ (by omega)).mono ?_); rintro e vf ⟨rfl, rfl⟩))
    go_ret
    exact ⟨rfl, hS⟩
  by_cases gs : 400 < a2.size
  · go_enter Tryd.func9, Tryd.ntmps9
    go_wp2_with (first
      | (go_at_call 11; (with_reducible refine (Law02.alive _).mono ?_); rintro e v0 ⟨rfl, hv0⟩; have hS := hS.trans hv0)
      | (go_at_call 12; (with_reducible refine (Law02.few_yes _ _ _ _ _ _ _ (by omega) (by omega)).mono ?_); rintro e vf ⟨rfl, rfl⟩))
    go_ret
    exact ⟨rfl, hS⟩
  have L0 : d0.length ≤ 40 := by omega
  have LL0 := Lib.hid L0
  have M0 := Lib.hid (show d0.length ≤ 10000 by omega)
  have L1 : d1.length ≤ 40 := by omega
  have LL1 := Lib.hid L1
  have M1 := Lib.hid (show d1.length ≤ 10000 by omega)
  have SZ := Lib.hid (show a2.size ≤ 100000 by omega)
  have HL1 := Lib.hid hl1
  clear hl0 L0 hl1 L1
  by_cases q0 : rightB d0 = true
  case neg =>
    have q0' := Lib.hid (show rightB d0 = false by simpa using q0)
    clear q0
    obtain ⟨ds, ep, hp⟩ : ∃ ds ep, parseD a2.data.toList = (ds, ep) := ⟨_, _, rfl⟩
    have EP := Lib.hid hp
    by_cases he : ep = 0
    · subst he
      have ET := Lib.hid (text_parse hp).1
      have LP := Lib.hid (show ds.length ≤ 10000 by have := (text_parse hp).2; omega)
      clear hp
      go_enter Tryd.func9, Tryd.ntmps9
      go_wp2_with (first
        | (go_at_call 11; (with_reducible refine (Law02.alive _).mono ?_); rintro e v0 ⟨rfl, hv0⟩; have hS := hS.trans hv0)
        | (go_at_call 12; (with_reducible refine (Law02.few_yes _ _ _ _ _ _ _ (by omega) (by omega)).mono ?_); rintro e vf ⟨rfl, rfl⟩)
        | (go_at_call 32; (with_reducible refine (Law02.parse_is (s := a2) EP.out SZ.out).mono ?_); rintro e p1 ⟨vp, rfl, rp, sp⟩; have hS := hS.trans sp)
        | (go_at_call 30; (with_reducible refine (Law02.text_is (va := vp) (s := a2) ET.out rp LP.out).mono ?_); rintro e p2 ⟨rfl, sq⟩; have hS := hS.trans sq)
        | (go_at_call 17; (with_reducible refine (Law02.right_is (va := (.slice a0 len0 cap0)) (xs := d0) q0'.out (R0.out.since hS) M0.out).mono ?_); rintro e y0 ⟨rfl, t0⟩; have hS := hS.trans t0))
      go_ret
      exact ⟨rfl, hS⟩
    · have heb : (ep == 0) = false := by simpa using he
      clear hp he
      go_enter Tryd.func9, Tryd.ntmps9
      go_wp2_with (first
        | (go_at_call 11; (with_reducible refine (Law02.alive _).mono ?_); rintro e v0 ⟨rfl, hv0⟩; have hS := hS.trans hv0)
        | (go_at_call 12; (with_reducible refine (Law02.few_yes _ _ _ _ _ _ _ (by omega) (by omega)).mono ?_); rintro e vf ⟨rfl, rfl⟩)
        | (go_at_call 32; (with_reducible refine (Law02.parse_is (s := a2) EP.out SZ.out).mono ?_); rintro e p1 ⟨vp, rfl, rp, sp⟩; have hS := hS.trans sp)
        | (go_at_call 17; (with_reducible refine (Law02.right_is (va := (.slice a0 len0 cap0)) (xs := d0) q0'.out (R0.out.since hS) M0.out).mono ?_); rintro e y0 ⟨rfl, t0⟩; have hS := hS.trans t0))
      go_ret
      exact ⟨rfl, hS⟩
  have Q0 := Lib.hid q0
  clear q0
  by_cases q1 : rightB d1 = true
  case neg =>
    have q1' := Lib.hid (show rightB d1 = false by simpa using q1)
    clear q1
    obtain ⟨ds, ep, hp⟩ : ∃ ds ep, parseD a2.data.toList = (ds, ep) := ⟨_, _, rfl⟩
    have EP := Lib.hid hp
    by_cases he : ep = 0
    · subst he
      have ET := Lib.hid (text_parse hp).1
      have LP := Lib.hid (show ds.length ≤ 10000 by have := (text_parse hp).2; omega)
      clear hp
      go_enter Tryd.func9, Tryd.ntmps9
      go_wp2_with (first
        | (go_at_call 11; (with_reducible refine (Law02.alive _).mono ?_); rintro e v0 ⟨rfl, hv0⟩; have hS := hS.trans hv0)
        | (go_at_call 12; (with_reducible refine (Law02.few_yes _ _ _ _ _ _ _ (by omega) (by omega)).mono ?_); rintro e vf ⟨rfl, rfl⟩)
        | (go_at_call 32; (with_reducible refine (Law02.parse_is (s := a2) EP.out SZ.out).mono ?_); rintro e p1 ⟨vp, rfl, rp, sp⟩; have hS := hS.trans sp)
        | (go_at_call 30; (with_reducible refine (Law02.text_is (va := vp) (s := a2) ET.out rp LP.out).mono ?_); rintro e p2 ⟨rfl, sq⟩; have hS := hS.trans sq)
        | (go_at_call 17; (with_reducible refine (Law02.right_is (va := (.slice a0 len0 cap0)) (xs := d0) Q0.out (R0.out.since hS) M0.out).mono ?_); rintro e y0 ⟨rfl, t0⟩; have hS := hS.trans t0)
        | (go_at_call 17; (with_reducible refine (Law02.right_is (va := (.slice a1 len1 cap1)) (xs := d1) q1'.out (R1.out.since hS) M1.out).mono ?_); rintro e y1 ⟨rfl, t1⟩; have hS := hS.trans t1))
      go_ret
      exact ⟨rfl, hS⟩
    · have heb : (ep == 0) = false := by simpa using he
      clear hp he
      go_enter Tryd.func9, Tryd.ntmps9
      go_wp2_with (first
        | (go_at_call 11; (with_reducible refine (Law02.alive _).mono ?_); rintro e v0 ⟨rfl, hv0⟩; have hS := hS.trans hv0)
        | (go_at_call 12; (with_reducible refine (Law02.few_yes _ _ _ _ _ _ _ (by omega) (by omega)).mono ?_); rintro e vf ⟨rfl, rfl⟩)
        | (go_at_call 32; (with_reducible refine (Law02.parse_is (s := a2) EP.out SZ.out).mono ?_); rintro e p1 ⟨vp, rfl, rp, sp⟩; have hS := hS.trans sp)
        | (go_at_call 17; (with_reducible refine (Law02.right_is (va := (.slice a0 len0 cap0)) (xs := d0) Q0.out (R0.out.since hS) M0.out).mono ?_); rintro e y0 ⟨rfl, t0⟩; have hS := hS.trans t0)
        | (go_at_call 17; (with_reducible refine (Law02.right_is (va := (.slice a1 len1 cap1)) (xs := d1) q1'.out (R1.out.since hS) M1.out).mono ?_); rintro e y1 ⟨rfl, t1⟩; have hS := hS.trans t1))
      go_ret
      exact ⟨rfl, hS⟩
  have Q1 := Lib.hid q1
  clear q1
  have n0 := num_lt_pow R0.out.dig LL0.out
  have n1 := num_lt_pow R1.out.dig LL1.out
  have s01 := pow_add_lt n0 n1
  have E1 := Lib.hid (add_fit Q0.out Q1.out s01 (by omega))
  have X1 := Lib.hid (right_digs s01 (by omega))
  have D1 := Lib.hid (Nat.le_trans (digs_len_le s01) (by omega : 40 + 1 ≤ 1000))
  have E2 := Lib.hid (show subD (digs (num d0 + num d1)) d1 = (d0, 0) by
    unfold subD
    rw [if_pos ⟨⟨X1.out, Q1.out⟩, by rw [num_digs]; omega⟩, num_digs, Nat.add_sub_cancel, digs_self R0.out.dig Q0.out])
  obtain ⟨t, ht1, ht2, ht3⟩ := parse_text R0.out.dig Q0.out LL0.out
  have T1 := Lib.hid ht1
  have T2 := Lib.hid ht2
  have T3 := Lib.hid (show t.size ≤ 100000 by omega)
  clear ht1 ht2 ht3 s01
  by_cases h0 : d1.length = 0
  · have hz : ((len1 : Int) == 0) = true := by have := HL1.out; rw [beq_iff_eq]; omega
    clear h0 n0 n1
    obtain ⟨ds, ep, hp⟩ : ∃ ds ep, parseD a2.data.toList = (ds, ep) := ⟨_, _, rfl⟩
    have EP := Lib.hid hp
    by_cases he : ep = 0
    · subst he
      have ET := Lib.hid (text_parse hp).1
      have LP := Lib.hid (show ds.length ≤ 10000 by have := (text_parse hp).2; omega)
      clear hp
      go_enter Tryd.func9, Tryd.ntmps9
      go_wp2_with (first
        | (go_at_call 11; (with_reducible refine (Law02.alive _).mono ?_); rintro e v0 ⟨rfl, hv0⟩; have hS := hS.trans hv0)
        | (go_at_call 12; (with_reducible refine (Law02.few_yes _ _ _ _ _ _ _ (by omega) (by omega)).mono ?_); rintro e vf ⟨rfl, rfl⟩)
        | (go_at_call 32; (with_reducible refine (Law02.parse_is (s := a2) EP.out SZ.out).mono ?_); rintro e p1 ⟨vp, rfl, rp, sp⟩; have hS := hS.trans sp)
        | (go_at_call 30; (with_reducible refine (Law02.text_is (va := vp) (s := a2) ET.out rp LP.out).mono ?_); rintro e p2 ⟨rfl, sq⟩; have hS := hS.trans sq)
        | (go_at_call 17; (with_reducible refine (Law02.right_is (va := (.slice a0 len0 cap0)) (xs := d0) Q0.out (R0.out.since hS) M0.out).mono ?_); rintro e y0 ⟨rfl, t0⟩; have hS := hS.trans t0)
        | (go_at_call 17; (with_reducible refine (Law02.right_is (va := (.slice a1 len1 cap1)) (xs := d1) Q1.out (R1.out.since hS) M1.out).mono ?_); rintro e y1 ⟨rfl, t1⟩; have hS := hS.trans t1)
        | (go_at_call 22; (with_reducible refine (Law02.add_is (va := (.slice a0 len0 cap0)) (vb := (.slice a1 len1 cap1)) E1.out (R0.out.since hS) (R1.out.since hS) M0.out M1.out).mono ?_); rintro e x1 ⟨v1, rfl, r1, s1⟩; have hS := hS.trans s1)
        | (go_at_call 24; (with_reducible refine (Law02.sub_is (va := v1) (vb := (.slice a1 len1 cap1)) E2.out r1 (R1.out.since hS) (by have := D1.out; omega) M1.out).mono ?_); rintro e x2 ⟨v2, rfl, r2, s2⟩; have hS := hS.trans s2)
        | (go_at_call 30; (with_reducible refine (Law02.text_is (va := (.slice a0 len0 cap0)) (s := t) T1.out (R0.out.since hS) M0.out).mono ?_); rintro e x3 ⟨rfl, s3⟩; have hS := hS.trans s3; have r2 := r2.since s3)
        | (go_at_call 32; (with_reducible refine (Law02.parse_is (s := t) T2.out T3.out).mono ?_); rintro e x4 ⟨v4, rfl, r4, s4⟩; have hS := hS.trans s4; have r2 := r2.since s4)
        | (go_at_call 19; (with_reducible refine (Law02.same_wit v2 (.slice a0 len0 cap0) d0 _ r2 (R0.out.since hS) (by have := LL0.out; omega)).mono ?_); rintro e x5 ⟨rfl, s5⟩; have hS := hS.trans s5; have r4 := r4.since s5)
        | (go_at_call 19; (with_reducible refine (Law02.same_wit v4 (.slice a0 len0 cap0) d0 _ r4 (R0.out.since hS) (by have := LL0.out; omega)).mono ?_); rintro e x6 ⟨rfl, s6⟩; have hS := hS.trans s6))
      go_ret
      exact ⟨rfl, hS⟩
    · have heb : (ep == 0) = false := by simpa using he
      clear hp he
      go_enter Tryd.func9, Tryd.ntmps9
      go_wp2_with (first
        | (go_at_call 11; (with_reducible refine (Law02.alive _).mono ?_); rintro e v0 ⟨rfl, hv0⟩; have hS := hS.trans hv0)
        | (go_at_call 12; (with_reducible refine (Law02.few_yes _ _ _ _ _ _ _ (by omega) (by omega)).mono ?_); rintro e vf ⟨rfl, rfl⟩)
        | (go_at_call 32; (with_reducible refine (Law02.parse_is (s := a2) EP.out SZ.out).mono ?_); rintro e p1 ⟨vp, rfl, rp, sp⟩; have hS := hS.trans sp)
        | (go_at_call 17; (with_reducible refine (Law02.right_is (va := (.slice a0 len0 cap0)) (xs := d0) Q0.out (R0.out.since hS) M0.out).mono ?_); rintro e y0 ⟨rfl, t0⟩; have hS := hS.trans t0)
        | (go_at_call 17; (with_reducible refine (Law02.right_is (va := (.slice a1 len1 cap1)) (xs := d1) Q1.out (R1.out.since hS) M1.out).mono ?_); rintro e y1 ⟨rfl, t1⟩; have hS := hS.trans t1)
        | (go_at_call 22; (with_reducible refine (Law02.add_is (va := (.slice a0 len0 cap0)) (vb := (.slice a1 len1 cap1)) E1.out (R0.out.since hS) (R1.out.since hS) M0.out M1.out).mono ?_); rintro e x1 ⟨v1, rfl, r1, s1⟩; have hS := hS.trans s1)
        | (go_at_call 24; (with_reducible refine (Law02.sub_is (va := v1) (vb := (.slice a1 len1 cap1)) E2.out r1 (R1.out.since hS) (by have := D1.out; omega) M1.out).mono ?_); rintro e x2 ⟨v2, rfl, r2, s2⟩; have hS := hS.trans s2)
        | (go_at_call 30; (with_reducible refine (Law02.text_is (va := (.slice a0 len0 cap0)) (s := t) T1.out (R0.out.since hS) M0.out).mono ?_); rintro e x3 ⟨rfl, s3⟩; have hS := hS.trans s3; have r2 := r2.since s3)
        | (go_at_call 32; (with_reducible refine (Law02.parse_is (s := t) T2.out T3.out).mono ?_); rintro e x4 ⟨v4, rfl, r4, s4⟩; have hS := hS.trans s4; have r2 := r2.since s4)
        | (go_at_call 19; (with_reducible refine (Law02.same_wit v2 (.slice a0 len0 cap0) d0 _ r2 (R0.out.since hS) (by have := LL0.out; omega)).mono ?_); rintro e x5 ⟨rfl, s5⟩; have hS := hS.trans s5; have r4 := r4.since s5)
        | (go_at_call 19; (with_reducible refine (Law02.same_wit v4 (.slice a0 len0 cap0) d0 _ r4 (R0.out.since hS) (by have := LL0.out; omega)).mono ?_); rintro e x6 ⟨rfl, s6⟩; have hS := hS.trans s6))
      go_ret
      exact ⟨rfl, hS⟩
  · have hz : ((len1 : Int) == 0) = false := by have := HL1.out; rw [beq_eq_false_iff_ne]; omega
    have hpos := num_pos (right_norm Q1.out).2 h0
    have hr := Nat.mod_lt (num d0) hpos
    have hdm := Nat.div_add_mod (num d0) (num d1)
    have lq : num d0 / num d1 < 4294967296 ^ 40 := Nat.lt_of_le_of_lt (Nat.div_le_self _ _) n0
    have lr : num d0 % num d1 < 4294967296 ^ 40 := Nat.lt_of_le_of_lt (Nat.mod_le _ _) n0
    have F1 := Lib.hid (show divQ d0 d1 = digs (num d0 / num d1) ∧ divR d0 d1 = digs (num d0 % num d1) ∧ divE d0 d1 = 0 by
      unfold divQ divR divE
      rw [if_pos ⟨⟨Q0.out, Q1.out⟩, h0⟩, if_pos ⟨⟨Q0.out, Q1.out⟩, h0⟩, if_pos ⟨⟨Q0.out, Q1.out⟩, h0⟩]
      exact ⟨rfl, rfl, rfl⟩)
    have hle : num d0 / num d1 * num d1 < 4294967296 ^ 40 := Nat.lt_of_le_of_lt (Nat.div_mul_le_self _ _) n0
    have F2 := Lib.hid (show mulD (digs (num d0 / num d1)) d1 = (digs (num d0 / num d1 * num d1), 0) by
      have := mul_fit (xs := digs (num d0 / num d1)) (right_digs lq (by omega)) Q1.out (by rw [num_digs]; exact hle) (by omega)
      rwa [num_digs] at this)
    have F3 := Lib.hid (show addD (digs (num d0 / num d1 * num d1)) (digs (num d0 % num d1)) = (d0, 0) by
      have := add_fit (xs := digs (num d0 / num d1 * num d1)) (ys := digs (num d0 % num d1)) (right_digs hle (by omega)) (right_digs lr (by omega)) (by rw [num_digs, num_digs, Nat.mul_comm, hdm]; exact n0) (by omega)
      rw [num_digs, num_digs, Nat.mul_comm, hdm, digs_self R0.out.dig Q0.out] at this
      rw [Nat.mul_comm]; exact this)
    have F4 := Lib.hid (show cmpD (digs (num d0 % num d1)) d1 = (-1, 0) by
      unfold cmpD
      rw [if_pos ⟨right_digs lr (by omega), Q1.out⟩, num_digs, if_pos hr])
    have G1 := Lib.hid (Nat.le_trans (digs_len_le lq) (by omega : 40 ≤ 1000))
    have G2 := Lib.hid (Nat.le_trans (digs_len_le lr) (by omega : 40 ≤ 1000))
    have G3 := Lib.hid (Nat.le_trans (digs_len_le hle) (by omega : 40 ≤ 1000))
    clear h0 n0 n1 hpos hr hdm lq lr hle
    obtain ⟨ds, ep, hp⟩ : ∃ ds ep, parseD a2.data.toList = (ds, ep) := ⟨_, _, rfl⟩
    have EP := Lib.hid hp
    by_cases he : ep = 0
    · subst he
      have ET := Lib.hid (text_parse hp).1
      have LP := Lib.hid (show ds.length ≤ 10000 by have := (text_parse hp).2; omega)
      clear hp
      go_enter Tryd.func9, Tryd.ntmps9
      go_wp2_with (first
        | (go_at_call 11; (with_reducible refine (Law02.alive _).mono ?_); rintro e v0 ⟨rfl, hv0⟩; have hS := hS.trans hv0)
        | (go_at_call 12; (with_reducible refine (Law02.few_yes _ _ _ _ _ _ _ (by omega) (by omega)).mono ?_); rintro e vf ⟨rfl, rfl⟩)
        | (go_at_call 32; (with_reducible refine (Law02.parse_is (s := a2) EP.out SZ.out).mono ?_); rintro e p1 ⟨vp, rfl, rp, sp⟩; have hS := hS.trans sp)
        | (go_at_call 30; (with_reducible refine (Law02.text_is (va := vp) (s := a2) ET.out rp LP.out).mono ?_); rintro e p2 ⟨rfl, sq⟩; have hS := hS.trans sq)
        | (go_at_call 17; (with_reducible refine (Law02.right_is (va := (.slice a0 len0 cap0)) (xs := d0) Q0.out (R0.out.since hS) M0.out).mono ?_); rintro e y0 ⟨rfl, t0⟩; have hS := hS.trans t0)
        | (go_at_call 17; (with_reducible refine (Law02.right_is (va := (.slice a1 len1 cap1)) (xs := d1) Q1.out (R1.out.since hS) M1.out).mono ?_); rintro e y1 ⟨rfl, t1⟩; have hS := hS.trans t1)
        | (go_at_call 22; (with_reducible refine (Law02.add_is (va := (.slice a0 len0 cap0)) (vb := (.slice a1 len1 cap1)) E1.out (R0.out.since hS) (R1.out.since hS) M0.out M1.out).mono ?_); rintro e x1 ⟨v1, rfl, r1, s1⟩; have hS := hS.trans s1)
        | (go_at_call 24; (with_reducible refine (Law02.sub_is (va := v1) (vb := (.slice a1 len1 cap1)) E2.out r1 (R1.out.since hS) (by have := D1.out; omega) M1.out).mono ?_); rintro e x2 ⟨v2, rfl, r2, s2⟩; have hS := hS.trans s2)
        | (go_at_call 30; (with_reducible refine (Law02.text_is (va := (.slice a0 len0 cap0)) (s := t) T1.out (R0.out.since hS) M0.out).mono ?_); rintro e x3 ⟨rfl, s3⟩; have hS := hS.trans s3; have r2 := r2.since s3)
        | (go_at_call 32; (with_reducible refine (Law02.parse_is (s := t) T2.out T3.out).mono ?_); rintro e x4 ⟨v4, rfl, r4, s4⟩; have hS := hS.trans s4; have r2 := r2.since s4)
        | (go_at_call 19; (with_reducible refine (Law02.same_wit v2 (.slice a0 len0 cap0) d0 _ r2 (R0.out.since hS) (by have := LL0.out; omega)).mono ?_); rintro e x5 ⟨rfl, s5⟩; have hS := hS.trans s5; have r4 := r4.since s5)
        | (go_at_call 19; (with_reducible refine (Law02.same_wit v4 (.slice a0 len0 cap0) d0 _ r4 (R0.out.since hS) (by have := LL0.out; omega)).mono ?_); rintro e x6 ⟨rfl, s6⟩; have hS := hS.trans s6)
        | (go_at_call 28; (with_reducible refine (Law02.div_is (va := (.slice a0 len0 cap0)) (vb := (.slice a1 len1 cap1)) F1.out (R0.out.since hS) (R1.out.since hS) M0.out M1.out).mono ?_); rintro e x7 ⟨v7, v8, rfl, r7, r8, s7⟩; have hS := hS.trans s7)
        | (go_at_call 26; (with_reducible refine (Law02.mul_is (va := v7) (vb := (.slice a1 len1 cap1)) F2.out r7 (R1.out.since hS) (by have := G1.out; omega) M1.out).mono ?_); rintro e x8 ⟨v9, rfl, r9, s8⟩; have hS := hS.trans s8; have r8 := r8.since s8)
        | (go_at_call 22; (with_reducible refine (Law02.add_is (va := v9) (vb := v8) F3.out r9 r8 (by have := G3.out; omega) (by have := G2.out; omega)).mono ?_); rintro e x9 ⟨v10, rfl, r10, s9⟩; have hS := hS.trans s9; have r8 := r8.since s9)
        | (go_at_call 15; (with_reducible refine (Law02.cmp_is (va := v8) (vb := (.slice a1 len1 cap1)) F4.out r8 (R1.out.since hS) (by have := G2.out; omega) M1.out).mono ?_); rintro e x10 ⟨rfl, s10⟩; have hS := hS.trans s10; have r10 := r10.since s10)
        | (go_at_call 19; (with_reducible refine (Law02.same_wit v10 (.slice a0 len0 cap0) d0 _ r10 (R0.out.since hS) (by have := LL0.out; omega)).mono ?_); rintro e x11 ⟨rfl, s11⟩; have hS := hS.trans s11))
      go_ret
      exact ⟨rfl, hS⟩
    · have heb : (ep == 0) = false := by simpa using he
      clear hp he
      go_enter Tryd.func9, Tryd.ntmps9
      go_wp2_with (first
        | (go_at_call 11; (with_reducible refine (Law02.alive _).mono ?_); rintro e v0 ⟨rfl, hv0⟩; have hS := hS.trans hv0)
        | (go_at_call 12; (with_reducible refine (Law02.few_yes _ _ _ _ _ _ _ (by omega) (by omega)).mono ?_); rintro e vf ⟨rfl, rfl⟩)
        | (go_at_call 32; (with_reducible refine (Law02.parse_is (s := a2) EP.out SZ.out).mono ?_); rintro e p1 ⟨vp, rfl, rp, sp⟩; have hS := hS.trans sp)
        | (go_at_call 17; (with_reducible refine (Law02.right_is (va := (.slice a0 len0 cap0)) (xs := d0) Q0.out (R0.out.since hS) M0.out).mono ?_); rintro e y0 ⟨rfl, t0⟩; have hS := hS.trans t0)
        | (go_at_call 17; (with_reducible refine (Law02.right_is (va := (.slice a1 len1 cap1)) (xs := d1) Q1.out (R1.out.since hS) M1.out).mono ?_); rintro e y1 ⟨rfl, t1⟩; have hS := hS.trans t1)
        | (go_at_call 22; (with_reducible refine (Law02.add_is (va := (.slice a0 len0 cap0)) (vb := (.slice a1 len1 cap1)) E1.out (R0.out.since hS) (R1.out.since hS) M0.out M1.out).mono ?_); rintro e x1 ⟨v1, rfl, r1, s1⟩; have hS := hS.trans s1)
        | (go_at_call 24; (with_reducible refine (Law02.sub_is (va := v1) (vb := (.slice a1 len1 cap1)) E2.out r1 (R1.out.since hS) (by have := D1.out; omega) M1.out).mono ?_); rintro e x2 ⟨v2, rfl, r2, s2⟩; have hS := hS.trans s2)
        | (go_at_call 30; (with_reducible refine (Law02.text_is (va := (.slice a0 len0 cap0)) (s := t) T1.out (R0.out.since hS) M0.out).mono ?_); rintro e x3 ⟨rfl, s3⟩; have hS := hS.trans s3; have r2 := r2.since s3)
        | (go_at_call 32; (with_reducible refine (Law02.parse_is (s := t) T2.out T3.out).mono ?_); rintro e x4 ⟨v4, rfl, r4, s4⟩; have hS := hS.trans s4; have r2 := r2.since s4)
        | (go_at_call 19; (with_reducible refine (Law02.same_wit v2 (.slice a0 len0 cap0) d0 _ r2 (R0.out.since hS) (by have := LL0.out; omega)).mono ?_); rintro e x5 ⟨rfl, s5⟩; have hS := hS.trans s5; have r4 := r4.since s5)
        | (go_at_call 19; (with_reducible refine (Law02.same_wit v4 (.slice a0 len0 cap0) d0 _ r4 (R0.out.since hS) (by have := LL0.out; omega)).mono ?_); rintro e x6 ⟨rfl, s6⟩; have hS := hS.trans s6)
        | (go_at_call 28; (with_reducible refine (Law02.div_is (va := (.slice a0 len0 cap0)) (vb := (.slice a1 len1 cap1)) F1.out (R0.out.since hS) (R1.out.since hS) M0.out M1.out).mono ?_); rintro e x7 ⟨v7, v8, rfl, r7, r8, s7⟩; have hS := hS.trans s7)
        | (go_at_call 26; (with_reducible refine (Law02.mul_is (va := v7) (vb := (.slice a1 len1 cap1)) F2.out r7 (R1.out.since hS) (by have := G1.out; omega) M1.out).mono ?_); rintro e x8 ⟨v9, rfl, r9, s8⟩; have hS := hS.trans s8; have r8 := r8.since s8)
        | (go_at_call 22; (with_reducible refine (Law02.add_is (va := v9) (vb := v8) F3.out r9 r8 (by have := G3.out; omega) (by have := G2.out; omega)).mono ?_); rintro e x9 ⟨v10, rfl, r10, s9⟩; have hS := hS.trans s9; have r8 := r8.since s9)
        | (go_at_call 15; (with_reducible refine (Law02.cmp_is (va := v8) (vb := (.slice a1 len1 cap1)) F4.out r8 (R1.out.since hS) (by have := G2.out; omega) M1.out).mono ?_); rintro e x10 ⟨rfl, s10⟩; have hS := hS.trans s10; have r10 := r10.since s10)
        | (go_at_call 19; (with_reducible refine (Law02.same_wit v10 (.slice a0 len0 cap0) d0 _ r10 (R0.out.since hS) (by have := LL0.out; omega)).mono ?_); rintro e x11 ⟨rfl, s11⟩; have hS := hS.trans s11))
      go_ret
      exact ⟨rfl, hS⟩

set_option maxRecDepth 100000 in
theorem lifted (os : Os) (started : os.Started) (H : Type) (enc : TypeId × Value → H) :
    ReturnsInHanded {} Tryd.checked os 9 .any (fun w args => (Rows.natBackSpec.pre enc Tryd.prog Tryd.f9 Rows.natBackRow.domain false w args ∧ laidMetH Tryd.prog Rows.natBackRow.laid w) ∧ sizedMet enc Tryd.prog Tryd.f9 (OpenSpec.ofChange Rows.natBackSpec) false w args) (Rows.natBackSpec.post enc Tryd.prog Tryd.f9 false true false false) := by
  refine returnsInHanded_of_change_and (C := Tryd.checked) (X := fun w _ => laidMetH Tryd.prog Rows.natBackRow.laid w) (fun _ _ _ hh h => h.of_heap hh) own started (by kernel_rfl) Tryd.func9
    (ChangeSpec.witness_shaped (enc := enc) (C := Tryd.checked) (os := os) (X := fun w _ => laidMetH Tryd.prog Rows.natBackRow.laid w) false (World.laidAll Tryd.prog os Rows.natBackRow.laid) #[.slice none 0 0, .slice none 0 0, .string ByteArray.empty] 8 (World.laidAll_os _ _ _)
      (World.shaped_of_ZipB (by kernel_rfl) (by kernel_rfl)) (by kernel_rfl) (by kernel_rfl) (by kernel_rfl)
      (by rw [MakeChecks.laidMetH_plain _ _ _ (by kernel_rfl)]; exact laidMet_laidAll _ (by kernel_rfl) (by kernel_rfl))) ?_
  intro W base args ds gs before hval0 hW hcnd _ _ _
  have hval : ∀ (j : Nat) t v, Tryd.f9.params[j]? = some t → args[j]? = some v → Value.okWide Tryd.prog W .any base t v := hval0
  have hW' := hW
  obtain ⟨p, q, hA0, hV, rfl, hfz, hnd⟩ := hW
  have hA : DataW.TrodAll enc Tryd.prog W 0 (fun _ => true) true Tryd.f9.params.toList args.toList ds p := hA0
  rw [Tryd.params9] at hA hval
  obtain ⟨v0, vs0, d0, ds0, p0, q0, hargs, rfl, rfl, h0, r0⟩ := trodAll_cons hA
  obtain ⟨v1, vs1, d1, ds1, p1, q1, rfl, rfl, rfl, h1, r1⟩ := trodAll_cons r0
  obtain ⟨v2, vs2, d2, ds2, p2, q2, rfl, rfl, rfl, h2, r2⟩ := trodAll_cons r1
  obtain ⟨rfl, rfl, rfl⟩ := trodAll_nil r2
  obtain rfl : args = #[v0, v1, v2] := by cases args; simp_all
  obtain ⟨rfl, rfl⟩ := trodVars_none hV
  obtain ⟨a0, len0, cap0, rfl⟩ := okWide_slice Tryd.underlying22 (hval 0 22 v0 rfl rfl)
  have k0 := h0
  have lt0 : ∀ x ∈ p0, x.block < W.heap.size := by obtain ⟨m, hm⟩ := k0; exact DataW.trod_lt m _ _ _ hm
  obtain ⟨z0, w0⟩ : ∃ zs, IsRow .u32 W a0 len0 cap0 zs := by
    obtain ⟨fuel, hf⟩ := h0
    rcases open_ints Tryd.underlying22 Tryd.underlying55 (by kernel_rfl) hf with ⟨hcs, _⟩ | ⟨x, l, c, zs, hcs, _, hl, hm, hz, _, hcell, hwz⟩
    · simp [Value.cells] at hcs
      obtain ⟨rfl, rfl, rfl⟩ := hcs
      exact ⟨[], .inl ⟨rfl, rfl, rfl, rfl⟩⟩
    · simp [Value.cells] at hcs
      obtain ⟨rfl, rfl, rfl⟩ := hcs
      exact ⟨zs, .inr ⟨_, rfl, hl, hm, by simpa using hz, hcell, hwz⟩⟩
  obtain ⟨a1, len1, cap1, rfl⟩ := okWide_slice Tryd.underlying22 (hval 1 22 v1 rfl rfl)
  have k1 := h1
  have lt1 : ∀ x ∈ p1, x.block < W.heap.size := by obtain ⟨m, hm⟩ := k1; exact DataW.trod_lt m _ _ _ hm
  obtain ⟨z1, w1⟩ : ∃ zs, IsRow .u32 W a1 len1 cap1 zs := by
    obtain ⟨fuel, hf⟩ := h1
    rcases open_ints Tryd.underlying22 Tryd.underlying55 (by kernel_rfl) hf with ⟨hcs, _⟩ | ⟨x, l, c, zs, hcs, _, hl, hm, hz, _, hcell, hwz⟩
    · simp [Value.cells] at hcs
      obtain ⟨rfl, rfl, rfl⟩ := hcs
      exact ⟨[], .inl ⟨rfl, rfl, rfl, rfl⟩⟩
    · simp [Value.cells] at hcs
      obtain ⟨rfl, rfl, rfl⟩ := hcs
      exact ⟨zs, .inr ⟨_, rfl, hl, hm, by simpa using hz, hcell, hwz⟩⟩
  obtain ⟨a2, rfl, rfl, rfl, w2⟩ := open_string Tryd.underlying9 (hval 2 9 v2 rfl rfl) h2
  clear hA0 hval0
  refine (walk a0 len0 cap0 z0 a1 len1 cap1 z1 a2 W w0 w1 w2).mono fun e W' ⟨he, bel⟩ => ?_
  subst he
  exact ⟨_, rfl, _, _, _, [], _, [], hW', trodAll_mk1 (shut_bool Tryd.underlying4 _), (trodAll_cons_mk (Below.trod laidOut (by kernel_rfl) (of_decide_eq_true (by kernel_rfl)) k0 bel lt0) (trodAll_cons_mk (Below.trod laidOut (by kernel_rfl) (of_decide_eq_true (by kernel_rfl)) k1 bel lt1) (trodAll_cons_mk (shut_string Tryd.underlying9 w2) trodAll_mk0))), rfl, bel.frame _, fun h => by cases h⟩

theorem over : Rows.natBackRow.holds Tryd.pinned (OpenSpec.ofChange Rows.natBackSpec) :=
  OpenClaim.holds_of_wide 9 Tryd.f9 rfl rfl rfl rfl rfl rfl rfl ⟨rfl, rfl, rfl, rfl, rfl⟩ rfl rfl rfl rfl rfl (by kernel_rfl) Tryd.func9 (by kernel_rfl)
    (of_decide_eq_true (by kernel_rfl)) (by unfold Func.isWrapper; first | (rw [if_pos (by decide +kernel)]; kernel_rfl) | (rw [if_neg (by decide +kernel)]; exact ⟨rfl, rfl⟩))
    (fun os started H enc _ => lifted os started H enc)

/-- THE STATEMENT: the tied card -/
theorem proved : Rows.NatBackCardSaid :=
  Claim7.holds_tied_plain_at .later [] _ _ _ _ over (fun _ h => by cases h) (by kernel_rfl) (fun _ h => by cases h) natBack_row_tie rfl ⟨rfl, rfl⟩ (by kernel_rfl) rfl
    (fun f fn hf hfn => by
      obtain rfl : f = 9 := Option.some.inj ((show Tryd.prog.funcNamed "touchstone/touchstonelaw02.NatBack" = some 9 by kernel_rfl).symm.trans hf) |>.symm
      obtain rfl : fn = Tryd.f9 := (Option.some.inj (Tryd.func9.symm.trans hfn)).symm
      exact ⟨by kernel_rfl, fun j t ht => by
        rw [Tryd.params9] at ht
        have hm : t ∈ [22, 22, 9] := by simpa using Array.mem_of_getElem? ht
        have hall : ([22, 22, 9].all fun u => !Tryd.prog.wantsStandIn u) = true := by kernel_rfl
        exact (show Tryd.prog.wantsStandIn t = false by simpa using List.all_eq_true.1 hall t hm)⟩)
    (by kernel_rfl)
#print axioms proved
end Go.Proofs.YtkceldnljppflaaDoor.natBack
