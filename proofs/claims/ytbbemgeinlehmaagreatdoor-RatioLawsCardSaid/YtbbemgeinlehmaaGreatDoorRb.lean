/- What the document's own Plus gives back: the digits of the sum. What the document's own Of gives back. What the small calls of the document's own answers for layer 3 give back. What the document's own Of, Neg, fit, Sum, Times, Add, Mul of layer 3 give back. -/
import Derived.Test.YtbbemgeinlehmaaGreatDoorNb
import Derived.Test.YtbbemgeinlehmaaGreatDoorWd
namespace Go.Proofs.YtbbemgeinlehmaaGreatDoor.Ref02
open Go.RowKit
set_option linter.unusedVariables false
open Go.Proofs.YtbbemgeinlehmaaGreatDoor.Dig

set_option maxRecDepth 100000 in
set_option maxHeartbeats 1000000 in
theorem plus_any (va vb : Value) (xs ys : List Nat) (w : World) (hx : Row w va xs) (hy : Row w vb ys) (lx : xs.length ≤ 100000) (ly : ys.length ≤ 100000) :
    Calls Tryz.prog 75 #[va, vb] w (RetRow (digs (num xs + num ys)) w) := by
  have HX := Lib.hid hx
  have HY := Lib.hid hy
  have LX := Lib.hid (show xs.length ≤ 1000000 by omega)
  have LY := Lib.hid (show ys.length ≤ 1000000 by omega)
  obtain ⟨i0, hi, hz0, hz1, hz2⟩ := info_parts info_u32
  obtain ⟨m, hm⟩ : ∃ m, m = max xs.length ys.length := ⟨_, rfl⟩
  have hm1 : xs.length ≤ m := by omega
  have hm2 : ys.length ≤ m := by omega
  have hmx : (if xs.length < ys.length then (ys.length : Int) else (xs.length : Int)) = (m : Int) := by split <;> omega
  have hm3 : m ≤ 100000 := by omega
  obtain ⟨dx, A, cA, rfl, _, -⟩ := hx
  obtain ⟨dy, B, cB, rfl, _, -⟩ := hy
  have HD := Lib.hid (And.intro dx dy)
  clear hm dx dy
  obtain ⟨n1, hn1⟩ : ∃ n, n = xs.length := ⟨_, rfl⟩
  obtain ⟨n2, hn2⟩ : ∃ n, n = ys.length := ⟨_, rfl⟩
  rw [← hn1] at HX hm1 lx hmx ⊢
  rw [← hn2] at HY hm2 ly hmx ⊢
  have HN := Lib.hid (And.intro hn1 hn2)
  clear hn1 hn2
  go_enter Tryz.func75, Tryz.ntmps75
  go_wp2
  go_loopw [5, 6, 7] (fun s cv i wr => ∃ (k c : Nat) (acc : List Nat), k ≤ m + 1 ∧ i = .int .i64 k ∧ cv = .int .u64 c ∧ c ≤ 1 ∧ Hid (acc.length = k) ∧ Hid (IsDig acc) ∧ wr.ownsRow w.heap.size 88 1 s k (u32s acc) ∧ Hid (num acc + 4294967296 ^ k * c = num (xs.take k) + num (ys.take k)) ∧ Since w wr) (fun _ _ i _ => m + 1 - (intOf i).toNat)
  case atStart => exact ⟨0, 0, [], by omega, rfl, rfl, by omega, rfl, isDig_nil, World.ownsRow_nil _ _ _ _, by simp [Hid, num], Since.refl _⟩
  case round =>
    obtain ⟨k, c, acc, hk, rfl, rfl, hc, hl, hd, hown, hv, hw⟩ := hrel
    by_cases hlt : k < m + 1
    · obtain ⟨x, hx⟩ : ∃ x, x = xs.getD k 0 := ⟨_, rfl⟩
      obtain ⟨y, hy⟩ : ∃ y, y = ys.getD k 0 := ⟨_, rfl⟩
      have hxb : x < 4294967296 := by rw [hx]; exact getD_lt HD.out.1 k
      have hyb : y < 4294967296 := by rw [hy]; exact getD_lt HD.out.2 k
      have HK := Lib.hid (And.intro hx hy)
      have hstep := plus_step hl.out hv.out
      rw [← hx, ← hy] at hstep
      have HS := Lib.hid hstep
      clear hstep
      clear hx hy
      go_wp2_with (first
        | (go_at_call 97; (with_reducible refine (digit_any (.slice A n1 cA) xs k _ (HX.out.since hw) LX.out).mono ?_); rw [← HK.out.1]; rintro e w' ⟨rfl, rfl⟩)
        | (go_at_call 97; (with_reducible refine (digit_any (.slice B n2 cB) ys k _ (HY.out.since hw) LY.out).mono ?_); rw [← HK.out.2]; rintro e w' ⟨rfl, rfl⟩)
        | (at_builtin; refine wpList_append_own _ rfl _ _ 22 rfl w.heap.size 88 i0 (.int .u32 0) 1 4 Tryz.underlying22 hi hz0 hz1 hz2 rfl (by decide) _ _ _ rfl (hown.alloc _) ⟨wr.heap.size, 0, none⟩ 1 1 [.int .u32 (((x : Int) + (y : Int) + (c : Int)) % 4294967296)] rfl rfl ?c1 ?c2 ?c3 ?c4 ?c5 ?_))
      case c1 =>
        intro j u hj
        match j, hj with
        | 0, hj => simp at hj; subst hj; simp [Addr.add]
      case c2 => intro u hu; simp at hu; subst hu; rfl
      case c3 => unfold maxLen; omega
      case c4 => omega
      case c5 => have := hw.size; simp; omega
      intro v' w1 hown' hgrow _
      have hs1 : Since w w1 := Below.grown (hw.alloc _) hgrow (by have := hw.size; simp; omega) (fun g hg => (hown.lt g hg).1)
      have ho1 : w1.ownsRow w.heap.size 88 1 v' (k + 1) (u32s (acc ++ [(x + y + c) % 4294967296])) := by
        rw [u32s_append, u32s_one, show (((x + y + c) % 4294967296 : Nat) : Int) = ((x : Int) + (y : Int) + (c : Int)) % 4294967296 by omega]
        exact hown'
      clear hown' hgrow hown
      go_wp2
      go_roundw
      case rel => exact ⟨k + 1, (x + y + c) / 4294967296, acc ++ [(x + y + c) % 4294967296], by omega, by go_num, by go_num, by omega, by show _ = _; rw [List.length_append, hl.out]; rfl, isDig_snoc hd.out (by omega), ho1, HS.out, hs1⟩
      case measure => simp [intOf]; omega
    · obtain rfl : k = m + 1 := by omega
      have hfin := plus_end HD.out.1 HD.out.2 (by have := HN.out.1; omega) (by have := HN.out.2; omega) hv.out
      have HF := Lib.hid hfin
      have hro := Row.own hd.out hown
      have HR := Lib.hid hro
      clear hfin hro hown
      go_wp2_with (go_at_call 98; (with_reducible refine (trim_any _ acc _ HR.out (by rw [hl.out]; omega)).mono ?_); rintro e w' ⟨v, rfl, hr, hs⟩)
      go_ret
      exact ⟨_, rfl, by rw [← HF.out]; assumption, hw.trans ‹_›⟩
end Go.Proofs.YtbbemgeinlehmaaGreatDoor.Ref02

namespace Go.Proofs.YtbbemgeinlehmaaGreatDoor.Ref02
open Go.RowKit
set_option linter.unusedVariables false
open Go.Proofs.YtbbemgeinlehmaaGreatDoor.Dig

theorem of_row (u : Nat) (w : World) (hd : IsDig [u % 4294967296, u / 4294967296]) :
    Row (w.alloc (.cells #[.int .u32 ((u : Int) % 4294967296), .int .u32 ((u : Int) / 4294967296)] 88)) (.slice (some ⟨w.heap.size, 0, none⟩) 2 2) [u % 4294967296, u / 4294967296] := by
  refine ⟨hd, some ⟨w.heap.size, 0, none⟩, 2, rfl, fun _ => ⟨w.heap.size, 0, rfl, fun i hi => ?_⟩, Nat.le_refl _⟩
  have hi2 : i < 2 := by simpa using hi
  rcases (show i = 0 ∨ i = 1 by omega) with rfl | rfl
  · simp [List.getD]
  · simp [List.getD]
theorem of_any (u : Nat) (w : World) (hu : u < 18446744073709551616) :
    Calls Tryz.prog 83 #[.int .u64 (u : Int)] w (RetRow (digs u) w) := by
  have e : num [u % 4294967296, u / 4294967296] = u := by simp only [num]; omega
  have hd : IsDig [u % 4294967296, u / 4294967296] := by
    intro x hx
    simp at hx
    omega
  have HE := Lib.hid (And.intro e hd)
  clear e hd
  go_enter Tryz.func83, Tryz.ntmps83
  have HR := Lib.hid (of_row u w HE.out.2)
  go_wp2_with (go_at_call 98; refine (trim_any _ [u % 4294967296, u / 4294967296] _ HR.out (by simp)).mono ?_; rw [HE.out.1]; rintro e w' ⟨v, rfl, hr, hs⟩)
  go_ret
  exact ⟨_, rfl, ‹_›, ((Since.refl w).alloc _).trans ‹_›⟩

end Go.Proofs.YtbbemgeinlehmaaGreatDoor.Ref02

namespace Go.Proofs.YtbbemgeinlehmaaGreatDoor.Ref03
open Go.RowKit
set_option linter.unusedVariables false
open Go.Proofs.YtbbemgeinlehmaaGreatDoor.Dig

theorem right_any (m : Value) (neg : Bool) (ds : List Nat) (w : World) (h : Row w m ds) (hl : ds.length ≤ 10000) :
    Calls Tryz.prog 61 #[sv neg m] w fun e w' => e = .returned (.bool (srightB neg ds)) ∧ Since w w' := by
  have H := Lib.hid h
  have HL := Lib.hid hl
  obtain ⟨_, A, c, rfl, _, -⟩ := h
  by_cases r : rightB ds = true
  · cases neg
    · have e : srightB false ds = true := by simp [srightB, r]
      rw [e]
      clear e
      go_enter Tryz.func61, Tryz.ntmps61
      go_wp2_with (go_at_call 86; (with_reducible refine (Ref02.right_any (.slice A ds.length c) ds _ (H.out.since ((Since.refl _).alloc _)) (by have := HL.out; omega)).mono ?_); rintro e w1 ⟨rfl, rfl⟩)
      go_ret
      exact ⟨rfl, (Since.refl _).alloc _⟩
    · by_cases h0 : ds.length = 0
      · have e : srightB true ds = false := by simp [srightB, h0]
        rw [e]
        have hz : ((ds.length : Int) == 0) = true := by rw [beq_iff_eq]; omega
        clear e h0
        go_enter Tryz.func61, Tryz.ntmps61
        go_wp2_with (go_at_call 86; (with_reducible refine (Ref02.right_any (.slice A ds.length c) ds _ (H.out.since ((Since.refl _).alloc _)) (by have := HL.out; omega)).mono ?_); rintro e w1 ⟨rfl, rfl⟩)
        go_ret
        exact ⟨rfl, (Since.refl _).alloc _⟩
      · have e : srightB true ds = true := by simp [srightB, r]; intro h; exact h0 (by rw [h]; rfl)
        rw [e]
        have hz : ((ds.length : Int) == 0) = false := by rw [beq_eq_false_iff_ne]; omega
        clear e h0
        go_enter Tryz.func61, Tryz.ntmps61
        go_wp2_with (go_at_call 86; (with_reducible refine (Ref02.right_any (.slice A ds.length c) ds _ (H.out.since ((Since.refl _).alloc _)) (by have := HL.out; omega)).mono ?_); rintro e w1 ⟨rfl, rfl⟩)
        go_ret
        exact ⟨rfl, (Since.refl _).alloc _⟩
  · have r' : rightB ds = false := by simpa using r
    have e : srightB neg ds = false := by simp [srightB, r']
    rw [e]
    clear e r
    go_enter Tryz.func61, Tryz.ntmps61
    go_wp2_with (go_at_call 86; (with_reducible refine (Ref02.right_any (.slice A ds.length c) ds _ (H.out.since ((Since.refl _).alloc _)) (by have := HL.out; omega)).mono ?_); rintro e w1 ⟨rfl, rfl⟩)
    go_ret
    exact ⟨rfl, (Since.refl _).alloc _⟩
theorem made_any (m : Value) (neg : Bool) (ds : List Nat) (w : World) (h : Row w m ds) (hl : ds.length ≤ 1000000) :
    Calls Tryz.prog 74 #[.bool neg, m] w fun e w' => e = .returned (sv (signB neg ds) m) ∧ Since w w' := by
  obtain ⟨_, A, c, rfl, _, -⟩ := h
  cases neg
  · go_enter Tryz.func74, Tryz.ntmps74
    go_wp2
    exact bodyPost_ret (v := sv (signB false ds) (.slice A ds.length c)) (by simp [results, Tryz.results74, go_sem, signB]) rfl ⟨rfl, by repeat (first | exact Since.refl _ | refine Since.alloc ?_ _ | refine Since.set ?_ (by first | exact Nat.le_refl _ | simp) _)⟩
  · by_cases h0 : 0 < ds.length
    · have e : signB true ds = true := by simp [signB, h0]
      rw [e]
      clear e
      go_enter Tryz.func74, Tryz.ntmps74
      go_wp2
      exact bodyPost_ret (v := sv true (.slice A ds.length c)) (by simp [results, Tryz.results74, go_sem]) rfl ⟨rfl, by repeat (first | exact Since.refl _ | refine Since.alloc ?_ _ | refine Since.set ?_ (by first | exact Nat.le_refl _ | simp) _)⟩
    · have e : signB true ds = false := by simp only [signB, Bool.true_and]; exact decide_eq_false h0
      rw [e]
      have hz : decide (0 < (ds.length : Int)) = false := by rw [decide_eq_false_iff_not]; omega
      clear e
      go_enter Tryz.func74, Tryz.ntmps74
      go_wp2
      exact bodyPost_ret (v := sv false (.slice A ds.length c)) (by simp [results, Tryz.results74, go_sem]) rfl ⟨rfl, by repeat (first | exact Since.refl _ | refine Since.alloc ?_ _ | refine Since.set ?_ (by first | exact Nat.le_refl _ | simp) _)⟩
theorem same_any (ma mb : Value) (na nb : Bool) (xs ys : List Nat) (w : World) (hx : Row w ma xs) (hy : Row w mb ys) (lx : xs.length ≤ 10000) (ly : ys.length ≤ 10000) :
    Calls Tryz.prog 30 #[sv na ma, sv nb mb] w fun e w' => e = .returned (.bool (na == nb && sameB xs ys)) ∧ Since w w' := by
  have H := Lib.hid (And.intro hx hy)
  have HL := Lib.hid (And.intro lx ly)
  clear hx hy lx ly
  cases na <;> cases nb
  all_goals
    go_enter Tryz.func30, Tryz.ntmps30
    go_wp2_with (go_at_call 60; (with_reducible refine (Ref02.same_any ma mb xs ys _ (H.out.1.since (((Since.refl _).alloc _).alloc _)) (H.out.2.since (((Since.refl _).alloc _).alloc _)) (by have := HL.out; omega) (by have := HL.out; omega)).mono ?_); rintro e w1 ⟨rfl, hs⟩)
    go_ret
    first
      | exact ⟨rfl, (((Since.refl _).alloc _).alloc _).trans ‹_›⟩
      | exact ⟨rfl, ((Since.refl _).alloc _).alloc _⟩
theorem made_plus (m : Value) (ds : List Nat) (w : World) (h : Row w m ds) (hl : ds.length ≤ 256) :
    Calls Tryz.prog 74 #[.bool false, m] w fun e w' => e = .returned (sv false m) ∧ Since w w' := by
  have := made_any m false ds w h (by omega)
  rwa [show signB false ds = false from rfl] at this
theorem made_minus (m : Value) (ds : List Nat) (w : World) (h : Row w m ds) (hl : ds.length ≤ 256) (h0 : ds.length ≠ 0) :
    Calls Tryz.prog 74 #[.bool true, m] w fun e w' => e = .returned (sv true m) ∧ Since w w' := by
  have := made_any m true ds w h (by omega)
  rwa [show signB true ds = true by simp [signB]; omega] at this
end Go.Proofs.YtbbemgeinlehmaaGreatDoor.Ref03

namespace Go.Proofs.YtbbemgeinlehmaaGreatDoor.Ref03
open Go.RowKit
set_option linter.unusedVariables false
open Go.Proofs.YtbbemgeinlehmaaGreatDoor.Dig

theorem of_any (n : Int) (w : World) (hn : -9223372036854775808 ≤ n ∧ n ≤ 9223372036854775807) :
    Calls Tryz.prog 55 #[.int .i64 n] w (RetS (ngB n) (mag n) w) := by
  have HN := Lib.hid hn
  obtain ⟨h1, h2⟩ := hn
  by_cases h : n < 0
  · obtain ⟨u, hu⟩ : ∃ u : Nat, (u : Int) = -(n + 1) := ⟨(-(n + 1)).toNat, by omega⟩
    have hu2 : u < 18446744073709551616 := by omega
    have e1 : num (digs u) + num [1] = n.natAbs := by rw [num_digs, num_one]; omega
    have hl : (digs u).length ≤ 10 := Nat.le_trans (digs_len_le (k := 2) (by omega)) (by omega)
    have HL := Lib.hid hl
    have HU := Lib.hid hu2
    have E1 := Lib.hid e1
    have es := sign_mag n true (fun _ => by simp [ngB, h])
    have ES := Lib.hid es
    have hlm : (mag n).length ≤ 10 := Nat.le_trans (digs_len_le (k := 2) (by omega)) (by omega)
    have HLM := Lib.hid hlm
    have R1 := Lib.hid (show ∀ W : World, Row (W.alloc (.cells #[.int .u32 1] 88)) (.slice (some ⟨W.heap.size, 0, none⟩) 1 1) [1] from fun W => row_one W 88 1 (by omega))
    have hneg : -(n + 1) = (u : Int) := hu.symm
    clear hl e1 es hlm hu hu2
    go_enter Tryz.func55, Tryz.ntmps55
    go_wp2_with (first
      | (go_at_call 83; (with_reducible refine (Ref02.of_any u _ HU.out).mono ?_); rintro e w1 ⟨v1, rfl, hr1, hs1⟩)
      | (go_at_call 75; (with_reducible refine ((Ref02.plus_any v1 (.slice (some ⟨w1.heap.size, 0, none⟩) 1 1) (digs u) [1] _ (hr1.since (since_alloc _ _)) (R1.out w1) (by have := HL.out; omega) (by simp)).mono fun _ _ h => RetRow.sl h).mono ?_); rw [E1.out]; rintro e w2 ⟨A2, c2, rfl, hr2, hs2⟩)
      | (go_at_call 74; (with_reducible refine (made_any (.slice A2 (digs n.natAbs).length c2) true (mag n) _ hr2 (by have := HLM.out; omega)).mono ?_); rw [ES.out]; rintro e w3 ⟨rfl, hs3⟩; have hr2 := hr2.since hs3; have hK := ((hs1.alloc _).trans hs2).trans hs3; obtain ⟨c0, c1, f0, f1⟩ := keep2 hK))
    refine bodyPost_ret (v := sv (ngB n) (.slice A2 (digs n.natAbs).length c2)) ?_ rfl ?_
    · simp [results, Tryz.results55, go_sem, c0, c1]
    · exact ⟨_, _, rfl, row_set2 ‹Row w3 _ _› hK _ _, since_set2 hK _ _⟩
  · obtain ⟨u, rfl⟩ : ∃ u : Nat, n = (u : Int) := ⟨n.toNat, by omega⟩
    have HU := Lib.hid (show u < 18446744073709551616 by omega)
    have hl : (digs u).length ≤ 10 := Nat.le_trans (digs_len_le (k := 2) (by omega)) (by omega)
    have HL := Lib.hid hl
    have es : signB false (digs u) = ngB (u : Int) := by simp [signB, ngB]
    have ES := Lib.hid es
    have e2 : mag (u : Int) = digs u := rfl
    rw [e2]
    clear hl es e2
    go_enter Tryz.func55, Tryz.ntmps55
    go_wp2_with (first
      | (go_at_call 83; (with_reducible refine ((Ref02.of_any u _ HU.out).mono fun _ _ h => RetRow.sl h).mono ?_); rintro e w1 ⟨A2, c2, rfl, hr1, hs1⟩)
      | (go_at_call 74; (with_reducible refine (made_any (.slice A2 (digs u).length c2) false (digs u) _ hr1 (by have := HL.out; omega)).mono ?_); rw [ES.out]; rintro e w3 ⟨rfl, hs3⟩; have hr1 := hr1.since hs3; have hK := hs1.trans hs3; obtain ⟨c0, c1, f0, f1⟩ := keep2 hK))
    refine bodyPost_ret (v := sv (ngB (u : Int)) (.slice A2 (digs u).length c2)) ?_ rfl ?_
    · simp [results, Tryz.results55, go_sem, c0, c1]
    · exact ⟨_, _, rfl, row_set2 ‹Row w3 _ _› hK _ _, since_set2 hK _ _⟩
end Go.Proofs.YtbbemgeinlehmaaGreatDoor.Ref03
