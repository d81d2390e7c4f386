/- What Right and number of package signed give back, and the library's Clone of digits. What Cmp of package signed gives back. What Mul of package signed gives back. What addUnlike of package signed gives back. What Add of package signed gives back. What Of of package signed gives back. What Small of package signed gives back. -/
import Derived.Test.YtbbemgeinlehmaaGreatDoorWd
import Derived.Test.YtbbemgeinlehmaaGreatDoorNc
import Derived.Lib.SliceRun
import Derived.Laws.AppendOwn
import Derived.OwnWalk
import Derived.Test.YtbbemgeinlehmaaGreatDoorNd
import Derived.Deep.DeepCutAuto
namespace Go.Proofs.YtbbemgeinlehmaaGreatDoor.Sg03
open Go.RowKit
set_option linter.unusedVariables false
open Go.Proofs.YtbbemgeinlehmaaGreatDoor.Dig
open Go.Proofs.YtbbemgeinlehmaaGreatDoor.Ref03

theorem right_any (m : Value) (neg : Bool) (ds : List Nat) (w : World) (h : Row w m ds) (hl : ds.length ≤ 10000) :
    Calls Tryz.prog 65 #[sv neg m] w fun e w' => e = .returned (.bool (srightB neg ds)) ∧ Since w w' := by
  have H := Lib.hid h
  have HL := Lib.hid hl
  obtain ⟨_, A, c, rfl, _, -⟩ := h
  by_cases r : rightB ds = true
  · cases neg
    · have e : srightB false ds = true := by simp [srightB, r]
      rw [e]
      clear e
      go_enter Tryz.func65, Tryz.ntmps65
      go_wp2_with (go_at_call 88; (with_reducible refine (Nat02.right_yes (.slice A ds.length c) ds _ (H.out.since ((Since.refl _).alloc _)) (by have := HL.out; omega)).mono ?_); rintro e w1 ⟨rfl, rfl⟩)
      go_ret
      exact ⟨rfl, (Since.refl _).alloc _⟩
    · by_cases h0 : ds.length = 0
      · have e : srightB true ds = false := by simp [srightB, h0]
        rw [e]
        have hz : ((ds.length : Int) == 0) = true := by rw [beq_iff_eq]; omega
        clear e h0
        go_enter Tryz.func65, Tryz.ntmps65
        go_wp2_with (go_at_call 88; (with_reducible refine (Nat02.right_yes (.slice A ds.length c) ds _ (H.out.since ((Since.refl _).alloc _)) (by have := HL.out; omega)).mono ?_); rintro e w1 ⟨rfl, rfl⟩)
        go_ret
        exact ⟨rfl, (Since.refl _).alloc _⟩
      · have e : srightB true ds = true := by simp [srightB, r]; intro h; exact h0 (by rw [h]; rfl)
        rw [e]
        have hz : ((ds.length : Int) == 0) = false := by rw [beq_eq_false_iff_ne]; omega
        clear e h0
        go_enter Tryz.func65, Tryz.ntmps65
        go_wp2_with (go_at_call 88; (with_reducible refine (Nat02.right_yes (.slice A ds.length c) ds _ (H.out.since ((Since.refl _).alloc _)) (by have := HL.out; omega)).mono ?_); rintro e w1 ⟨rfl, rfl⟩)
        go_ret
        exact ⟨rfl, (Since.refl _).alloc _⟩
  · have r' : rightB ds = false := by simpa using r
    have e : srightB neg ds = false := by simp [srightB, r']
    rw [e]
    clear e r
    go_enter Tryz.func65, Tryz.ntmps65
    go_wp2_with (go_at_call 88; (with_reducible refine (Nat02.right_yes (.slice A ds.length c) ds _ (H.out.since ((Since.refl _).alloc _)) (by have := HL.out; omega)).mono ?_); rintro e w1 ⟨rfl, rfl⟩)
    go_ret
    exact ⟨rfl, (Since.refl _).alloc _⟩
theorem number_any (m : Value) (neg : Bool) (ds : List Nat) (w : World) (h : Row w m ds) (hl : ds.length ≤ 1000000) :
    Calls Tryz.prog 66 #[.bool neg, m] w fun e w' => e = .returned (sv (signB neg ds) m) ∧ Since w w' := by
  obtain ⟨_, A, c, rfl, _, -⟩ := h
  cases neg
  · go_enter Tryz.func66, Tryz.ntmps66
    go_wp2
    exact bodyPost_ret (v := sv (signB false ds) (.slice A ds.length c)) (by simp [results, Tryz.results66, go_sem, signB]) rfl ⟨rfl, by repeat (first | exact Since.refl _ | refine Since.alloc ?_ _ | refine Since.set ?_ (by first | exact Nat.le_refl _ | simp) _)⟩
  · by_cases h0 : 0 < ds.length
    · have e : signB true ds = true := by simp [signB, h0]
      rw [e]
      clear e
      go_enter Tryz.func66, Tryz.ntmps66
      go_wp2
      exact bodyPost_ret (v := sv true (.slice A ds.length c)) (by simp [results, Tryz.results66, go_sem]) rfl ⟨rfl, by repeat (first | exact Since.refl _ | refine Since.alloc ?_ _ | refine Since.set ?_ (by first | exact Nat.le_refl _ | simp) _)⟩
    · have e : signB true ds = false := by simp only [signB, Bool.true_and]; exact decide_eq_false h0
      rw [e]
      have hz : decide (0 < (ds.length : Int)) = false := by rw [decide_eq_false_iff_not]; omega
      clear e
      go_enter Tryz.func66, Tryz.ntmps66
      go_wp2
      exact bodyPost_ret (v := sv false (.slice A ds.length c)) (by simp [results, Tryz.results66, go_sem]) rfl ⟨rfl, by repeat (first | exact Since.refl _ | refine Since.alloc ?_ _ | refine Since.set ?_ (by first | exact Nat.le_refl _ | simp) _)⟩

theorem info_u32 : (Tryz.prog.info? 88).map (fun i => (i.zero, i.size, i.bytes)) = some (some (.int .u32 0), 1, 4) := by kernel_rfl
theorem under_row : Tryz.prog.underlying 22 = some (.slice 88) := by kernel_rfl
set_option maxHeartbeats 2000000 in
set_option maxRecDepth 100000 in
theorem clone_some (a : Addr) (c : Nat) (ds : List Nat) (w : World) (h : Row w (.slice (some a) ds.length c) ds) (hl : ds.length ≤ 10000) :
    Calls Tryz.prog 67 #[.slice (some a) ds.length c] w (RetRow ds w) := by
  obtain ⟨i0, hi, hz0, hz1, hz2⟩ := info_parts info_u32
  have under := under_row
  have q22 : ∀ (w : World) (a : Option Addr) (n c n' c' : Nat), (binOp .eql 22 (.slice a n c) (.slice none n' c')).run Tryz.prog w = .ok (.bool a.isNone) w := fun w a n c n' c' => Lib.run_eql_slice_nil w _ _ a n c n' c' under
  have A := Lib.hid h
  have HD := Lib.hid h.dig
  have HL := Lib.hid hl
  clear h hl
  go_enter Tryz.func67, Tryz.ntmps67
  go_wp2_with (at_builtin; refine wpList_append_own _ rfl _ _ 22 rfl w.heap.size 88 i0 (.int .u32 0) 1 4 under hi hz0 hz1 hz2 rfl (by decide) _ _ _ rfl (World.ownsRow_made w #[] 0 (Nat.le_refl _) (Nat.zero_le _) rfl) a ds.length c (u32s ds) rfl ?qc1 ?qc2 ?qc3 ?qc4 ?qc5 ?qc6 ?_)
  case qc1 => simp [u32s]
  case qc2 =>
    intro j u hj
    have hjn : j < ds.length := by
      have := (List.getElem?_eq_some_iff.1 hj).1
      simpa [u32s] using this
    obtain ⟨_, A', c', e', h3, _⟩ := A.out
    obtain ⟨b, o, e2, h4⟩ := h3 (by omega)
    injection e' with e1 e3 e4
    rw [e2] at e1
    injection e1 with e5
    subst e5
    rw [add_block]
    refine Lib.cell?_alloc_some _ ?_
    rw [h4 j hjn]
    have e : (u32s ds)[j]? = some (Value.int .u32 ((ds.getD j 0 : Nat) : Int)) := by simp [u32s, List.getD, List.getElem?_eq_getElem hjn]
    rw [e] at hj
    exact hj
  case qc3 => intro u hu; simp only [u32s, List.mem_map] at hu; obtain ⟨x, _, rfl⟩ := hu; rfl
  case qc4 => have := HL.out; unfold maxLen; omega
  case qc5 => have := HL.out; omega
  case qc6 => simp
  intro v' w1 hown hgrow hnil
  go_wp2
  go_ret
  refine ⟨v', rfl, Row.own HD.out (by simpa using hown), ?_⟩
  exact ((Below.refl _ w).alloc (Nat.le_refl _) _).grown hgrow (by simp) (by intro k hk; simp [Value.ownBlock] at hk; omega)
set_option maxHeartbeats 1000000 in
theorem clone_none (n c : Nat) (w : World) :
    Calls Tryz.prog 67 #[.slice none n c] w (RetRow [] w) := by
  have under := under_row
  have q22 : ∀ (w : World) (a : Option Addr) (n c n' c' : Nat), (binOp .eql 22 (.slice a n c) (.slice none n' c')).run Tryz.prog w = .ok (.bool a.isNone) w := fun w a n c n' c' => Lib.run_eql_slice_nil w _ _ a n c n' c' under
  go_enter Tryz.func67, Tryz.ntmps67
  go_wp2
  go_ret
  exact ⟨_, rfl, Row.nil _, Since.refl _⟩
theorem clone_any (v : Value) (ds : List Nat) (w : World) (h : Row w v ds) (hl : ds.length ≤ 10000) :
    Calls Tryz.prog 67 #[v] w (RetSl ds w) := by
  have h0 := h
  obtain ⟨_, A, c, rfl, h3, _⟩ := h0
  cases A with
  | some a => exact (clone_some a c ds w h hl).mono fun _ _ k => RetRow.sl k
  | none =>
    have e : ds = [] := by
      apply List.eq_nil_of_length_eq_zero
      apply Decidable.byContradiction
      intro hn
      obtain ⟨b, o, e, _⟩ := h3 (by omega)
      cases e
    subst e
    exact (clone_none _ c w).mono fun _ _ k => RetRow.sl k

end Go.Proofs.YtbbemgeinlehmaaGreatDoor.Sg03

namespace Go.Proofs.YtbbemgeinlehmaaGreatDoor.Sg03
open Go.RowKit
set_option linter.unusedVariables false
open Go.Proofs.YtbbemgeinlehmaaGreatDoor.Dig
open Go.Proofs.YtbbemgeinlehmaaGreatDoor.Ref03

set_option maxRecDepth 100000 in
set_option maxHeartbeats 2000000 in
theorem cmp_any (A0 A1 : Option Addr) (c0 c1 : Nat) (na nb : Bool) (xs ys : List Nat) (w : World) (hx : Row w (.slice A0 xs.length c0) xs) (hy : Row w (.slice A1 ys.length c1) ys) (lx : xs.length ≤ 1000) (ly : ys.length ≤ 1000) :
    Calls Tryz.prog 50 #[sv na (.slice A0 xs.length c0), sv nb (.slice A1 ys.length c1)] w fun e w' => e = .returned (.tuple #[.int .i64 (cmpZ na xs nb ys).1, .int .i64 (cmpZ na xs nb ys).2]) ∧ Since w w' := by
  have DX := Lib.hid hx.dig
  have DY := Lib.hid hy.dig
  have H := Lib.hid (And.intro hx hy)
  have LL := Lib.hid (And.intro lx ly)
  clear hx hy lx ly
  obtain ⟨n0, hn0⟩ : ∃ n, n = xs.length := ⟨_, rfl⟩
  rw [← hn0] at H ⊢
  obtain ⟨n1, hn1⟩ : ∃ n, n = ys.length := ⟨_, rfl⟩
  rw [← hn1] at H ⊢
  clear hn0 hn1
  obtain ⟨W0, hW0⟩ : ∃ W0, W0 = (w.alloc (.cells #[.bool na, .slice A0 n0 c0] 29)).alloc (.cells #[.bool nb, .slice A1 n1 c1] 29) := ⟨_, rfl⟩
  have HW := Lib.hid hW0
  have hS0 : Since w W0 := by rw [hW0]; exact ((Since.refl w).alloc _).alloc _
  have hold : Hid (∀ W : World, Since W0 W → (W.cell? ⟨w.heap.size, 0, none⟩ = some (.bool na) ∧ W.cell? ⟨w.heap.size, 1, none⟩ = some (.slice A0 n0 c0) ∧ W.cell? ⟨w.heap.size + 1, 0, none⟩ = some (.bool nb) ∧ W.cell? ⟨w.heap.size + 1, 1, none⟩ = some (.slice A1 n1 c1)) ∧ Since w W) := fun W h => ⟨hold2of (hW0 ▸ h), hS0.trans h⟩
  clear hW0
  have hK := Since.refl W0
  by_cases r1 : srightB na xs = true
  · by_cases r2 : srightB nb ys = true
    · have R1 := Lib.hid r1
      have R2 := Lib.hid r2
      have ev0 : cmpZ na xs nb ys = (if sval na xs < sval nb ys then (-1, 0) else if sval nb ys < sval na xs then (1, 0) else (0, 0)) := by unfold cmpZ; rw [if_pos ⟨r1, r2⟩]
      have g1 := sright_right r1
      have g2 := sright_right r2
      cases na <;> cases nb
      case false.false =>
        have EV := Lib.hid (show cmpZ false xs false ys = cmpD xs ys by rw [ev0, show cmpD xs ys = _ from if_pos ⟨g1, g2⟩]; simp only [sval, Bool.false_eq_true, if_false, Int.ofNat_lt])
        clear ev0 r1 r2 g1 g2
        go_enter Tryz.func50, Tryz.ntmps50
        go_wp2_with fail
        rw [← HW.out]
        go_wp2_with (first
          | (go_at_call 65; (with_reducible refine (right_any (.slice A0 n0 c0) false xs _ (H.out.1.since (hS0.trans hK)) (by have := LL.out; omega)).mono ?_); rw [R1.out]; rintro e w1 ⟨rfl, h⟩; have hK := hK.trans h; obtain ⟨⟨k0, k1, k2, k3⟩, _⟩ := hold.out _ hK)
          | (go_at_call 65; (with_reducible refine (right_any (.slice A1 n1 c1) false ys _ (H.out.2.since (hS0.trans hK)) (by have := LL.out; omega)).mono ?_); rw [R2.out]; rintro e w2 ⟨rfl, h⟩; have hK := hK.trans h; obtain ⟨⟨k0, k1, k2, k3⟩, _⟩ := hold.out _ hK)
          | (go_at_call 79; (with_reducible refine (Nat02.cmp_any (.slice A0 n0 c0) (.slice A1 n1 c1) xs ys _ (H.out.1.since (hS0.trans hK)) (H.out.2.since (hS0.trans hK)) (by have := LL.out; omega) (by have := LL.out; omega)).mono ?_); rintro e w3 ⟨rfl, h⟩; have hK := hK.trans h; obtain ⟨⟨k0, k1, k2, k3⟩, _⟩ := hold.out _ hK))
        go_ret2
        exact ⟨by rw [EV.out]; rfl, hS0.trans hK⟩
      case true.true =>
        have EV := Lib.hid (show cmpZ true xs true ys = cmpD ys xs by rw [ev0, show cmpD ys xs = _ from if_pos ⟨g2, g1⟩]; simp only [sval, if_true, Int.neg_lt_neg_iff, Int.ofNat_lt])
        clear ev0 r1 r2 g1 g2
        go_enter Tryz.func50, Tryz.ntmps50
        go_wp2_with fail
        rw [← HW.out]
        go_wp2_with (first
          | (go_at_call 65; (with_reducible refine (right_any (.slice A0 n0 c0) true xs _ (H.out.1.since (hS0.trans hK)) (by have := LL.out; omega)).mono ?_); rw [R1.out]; rintro e w1 ⟨rfl, h⟩; have hK := hK.trans h; obtain ⟨⟨k0, k1, k2, k3⟩, _⟩ := hold.out _ hK)
          | (go_at_call 65; (with_reducible refine (right_any (.slice A1 n1 c1) true ys _ (H.out.2.since (hS0.trans hK)) (by have := LL.out; omega)).mono ?_); rw [R2.out]; rintro e w2 ⟨rfl, h⟩; have hK := hK.trans h; obtain ⟨⟨k0, k1, k2, k3⟩, _⟩ := hold.out _ hK)
          | (go_at_call 79; (with_reducible refine (Nat02.cmp_any (.slice A1 n1 c1) (.slice A0 n0 c0) ys xs _ (H.out.2.since (hS0.trans hK)) (H.out.1.since (hS0.trans hK)) (by have := LL.out; omega) (by have := LL.out; omega)).mono ?_); rintro e w3 ⟨rfl, h⟩; have hK := hK.trans h; obtain ⟨⟨k0, k1, k2, k3⟩, _⟩ := hold.out _ hK))
        go_ret2
        exact ⟨by rw [EV.out]; rfl, hS0.trans hK⟩
      case true.false =>
        have EV := Lib.hid (show cmpZ true xs false ys = (-1, 0) by have := sright_pos r1; rw [ev0, if_pos]; simp only [sval, if_true, Bool.false_eq_true, if_false]; omega)
        clear ev0 r1 r2 g1 g2
        go_enter Tryz.func50, Tryz.ntmps50
        go_wp2_with fail
        rw [← HW.out]
        go_wp2_with (first
          | (go_at_call 65; (with_reducible refine (right_any (.slice A0 n0 c0) true xs _ (H.out.1.since (hS0.trans hK)) (by have := LL.out; omega)).mono ?_); rw [R1.out]; rintro e w1 ⟨rfl, h⟩; have hK := hK.trans h; obtain ⟨⟨k0, k1, k2, k3⟩, _⟩ := hold.out _ hK)
          | (go_at_call 65; (with_reducible refine (right_any (.slice A1 n1 c1) false ys _ (H.out.2.since (hS0.trans hK)) (by have := LL.out; omega)).mono ?_); rw [R2.out]; rintro e w2 ⟨rfl, h⟩; have hK := hK.trans h; obtain ⟨⟨k0, k1, k2, k3⟩, _⟩ := hold.out _ hK))
        go_ret2
        exact ⟨by rw [EV.out]; rfl, hS0.trans hK⟩
      case false.true =>
        have EV := Lib.hid (show cmpZ false xs true ys = (1, 0) by have := sright_pos r2; rw [ev0, if_neg, if_pos] <;> simp only [sval, if_true, Bool.false_eq_true, if_false] <;> omega)
        clear ev0 r1 r2 g1 g2
        go_enter Tryz.func50, Tryz.ntmps50
        go_wp2_with fail
        rw [← HW.out]
        go_wp2_with (first
          | (go_at_call 65; (with_reducible refine (right_any (.slice A0 n0 c0) false xs _ (H.out.1.since (hS0.trans hK)) (by have := LL.out; omega)).mono ?_); rw [R1.out]; rintro e w1 ⟨rfl, h⟩; have hK := hK.trans h; obtain ⟨⟨k0, k1, k2, k3⟩, _⟩ := hold.out _ hK)
          | (go_at_call 65; (with_reducible refine (right_any (.slice A1 n1 c1) true ys _ (H.out.2.since (hS0.trans hK)) (by have := LL.out; omega)).mono ?_); rw [R2.out]; rintro e w2 ⟨rfl, h⟩; have hK := hK.trans h; obtain ⟨⟨k0, k1, k2, k3⟩, _⟩ := hold.out _ hK))
        go_ret2
        exact ⟨by rw [EV.out]; rfl, hS0.trans hK⟩
    · have R1 := Lib.hid r1
      have R2 := Lib.hid (show srightB nb ys = false by simpa using r2)
      have EV := Lib.hid (show cmpZ na xs nb ys = (0, 2) by unfold cmpZ; rw [if_neg (fun h => r2 h.2)])
      clear r1 r2
      go_enter Tryz.func50, Tryz.ntmps50
      go_wp2_with fail
      rw [← HW.out]
      go_wp2_with (first
        | (go_at_call 65; (with_reducible refine (right_any (.slice A0 n0 c0) na xs _ (H.out.1.since (hS0.trans hK)) (by have := LL.out; omega)).mono ?_); rw [R1.out]; rintro e w1 ⟨rfl, h⟩; have hK := hK.trans h; obtain ⟨⟨k0, k1, k2, k3⟩, _⟩ := hold.out _ hK)
        | (go_at_call 65; (with_reducible refine (right_any (.slice A1 n1 c1) nb ys _ (H.out.2.since (hS0.trans hK)) (by have := LL.out; omega)).mono ?_); rw [R2.out]; rintro e w2 ⟨rfl, h⟩; have hK := hK.trans h; obtain ⟨⟨k0, k1, k2, k3⟩, _⟩ := hold.out _ hK))
      go_ret2
      exact ⟨by rw [EV.out]; rfl, hS0.trans hK⟩
  · have R1 := Lib.hid (show srightB na xs = false by simpa using r1)
    have EV := Lib.hid (show cmpZ na xs nb ys = (0, 2) by unfold cmpZ; rw [if_neg (fun h => r1 h.1)])
    clear r1
    go_enter Tryz.func50, Tryz.ntmps50
    go_wp2_with fail
    rw [← HW.out]
    go_wp2_with (first
      | (go_at_call 65; (with_reducible refine (right_any (.slice A0 n0 c0) na xs _ (H.out.1.since (hS0.trans hK)) (by have := LL.out; omega)).mono ?_); rw [R1.out]; rintro e w1 ⟨rfl, h⟩; have hK := hK.trans h; obtain ⟨⟨k0, k1, k2, k3⟩, _⟩ := hold.out _ hK))
    go_ret2
    exact ⟨by rw [EV.out]; rfl, hS0.trans hK⟩

end Go.Proofs.YtbbemgeinlehmaaGreatDoor.Sg03

namespace Go.Proofs.YtbbemgeinlehmaaGreatDoor.Sg03
open Go.RowKit
set_option linter.unusedVariables false
open Go.Proofs.YtbbemgeinlehmaaGreatDoor.Dig
open Go.Proofs.YtbbemgeinlehmaaGreatDoor.Ref03


theorem mul_sl (va vb : Value) (xs ys : List Nat) (w : World) (hx : Row w va xs) (hy : Row w vb ys) (lx : xs.length ≤ 10000) (ly : ys.length ≤ 10000) {ds : List Nat} {x : Int} (h : mulD xs ys = (ds, x)) :
    Calls Tryz.prog 94 #[va, vb] w (RetSlErr (ds, x) w) := by
  have := (Nat02.mul_any va vb xs ys w hx hy lx ly)
  rw [h] at this
  exact this.mono fun _ _ k => RetSlErr.of k
theorem sgn_mul (na nb : Bool) (X Y : Nat) : sgn na X * sgn nb Y = sgn (na != nb) (X * Y) := by
  cases na <;> cases nb <;> simp [sgn, Int.neg_mul, Int.mul_neg]
theorem sval_sgn (na : Bool) (xs : List Nat) : sval na xs = sgn na (num xs) := rfl
/-- a number that is a sign and a magnitude, fitted: what is fitted is the magnitude -/
theorem fitZ_sgn (b : Bool) (n : Nat) : fitZ (sgn b n) = ((signB b (fitD n).1, (fitD n).1), (fitD n).2) := by
  have h := ng_sgn b n
  unfold fitZ fitD
  rw [← h.2]
  split
  · rw [h.1]
  · simp [signB]
theorem mul_split (na nb : Bool) (xs ys : List Nat) (r1 : srightB na xs = true) (r2 : srightB nb ys = true) : mulZ na xs nb ys = ((signB (na != nb) (mulD xs ys).1, (mulD xs ys).1), (mulD xs ys).2) := by
  rw [mulZ, if_pos ⟨r1, r2⟩, sval_sgn, sval_sgn, sgn_mul, fitZ_sgn, mulD, if_pos ⟨sright_right r1, sright_right r2⟩]
set_option maxRecDepth 100000 in
set_option maxHeartbeats 2000000 in
theorem mul_any (A0 A1 : Option Addr) (c0 c1 : Nat) (na nb : Bool) (xs ys : List Nat) (w : World) (hx : Row w (.slice A0 xs.length c0) xs) (hy : Row w (.slice A1 ys.length c1) ys) (lx : xs.length ≤ 1000) (ly : ys.length ≤ 1000) :
    Calls Tryz.prog 72 #[sv na (.slice A0 xs.length c0), sv nb (.slice A1 ys.length c1)] w (RetZ (mulZ na xs nb ys) w) := by
  obtain ⟨Z, hZ⟩ : ∃ Z, Z = mulZ na xs nb ys := ⟨_, rfl⟩
  rw [← hZ]
  have EZ := Lib.hid hZ
  clear hZ
  have H := Lib.hid (And.intro hx hy)
  have LL := Lib.hid (And.intro lx ly)
  clear hx hy lx ly
  obtain ⟨n0, hn0⟩ : ∃ n, n = xs.length := ⟨_, rfl⟩
  rw [← hn0] at H ⊢
  obtain ⟨n1, hn1⟩ : ∃ n, n = ys.length := ⟨_, rfl⟩
  rw [← hn1] at H ⊢
  clear hn0 hn1
  obtain ⟨W0, hW0⟩ : ∃ W0, W0 = ((w.alloc (.cells #[.bool na, .slice A0 n0 c0] 29)).alloc (.cells #[.bool nb, .slice A1 n1 c1] 29)).alloc (.cells #[.bool false, .slice none 0 0] 29) := ⟨_, rfl⟩
  have HW := Lib.hid hW0
  have hS0 : Since w W0 := by rw [hW0]; exact (((Since.refl w).alloc _).alloc _).alloc _
  have hold : Hid (∀ W : World, Since W0 W → (W.cell? ⟨w.heap.size, 0, none⟩ = some (.bool na) ∧ W.cell? ⟨w.heap.size, 1, none⟩ = some (.slice A0 n0 c0) ∧ W.cell? ⟨w.heap.size + 1, 0, none⟩ = some (.bool nb) ∧ W.cell? ⟨w.heap.size + 1, 1, none⟩ = some (.slice A1 n1 c1)) ∧ Since w W) := fun W h => ⟨hold2 (hW0 ▸ h), hS0.trans h⟩
  have hk : Hid (∀ W : World, Since W0 W → W.cell? ⟨w.heap.size + 1 + 1, 0, none⟩ = some (.bool false) ∧ W.cell? ⟨w.heap.size + 1 + 1, 1, none⟩ = some (.slice none 0 0) ∧ W.frozen? ⟨w.heap.size + 1 + 1, 0, none⟩ = false ∧ W.frozen? ⟨w.heap.size + 1 + 1, 1, none⟩ = false) := fun W h => keep3 (hW0 ▸ h)
  have hb : Hid (∀ W : World, Since W0 W → Since (((w.alloc (.cells #[.bool na, .slice A0 n0 c0] 29)).alloc (.cells #[.bool nb, .slice A1 n1 c1] 29)).alloc (.cells #[.bool false, .slice none 0 0] 29)) W) := fun W h => hW0 ▸ h
  have setS : ∀ {W : World} {u0 u1 : Value}, Since W0 W → Since w ((W.setCell ⟨w.heap.size + 1 + 1, 0, none⟩ u0).setCell ⟨w.heap.size + 1 + 1, 1, none⟩ u1) := fun h => ((hS0.trans h).set (by show w.heap.size ≤ w.heap.size + 1 + 1; omega) _).set (by show w.heap.size ≤ w.heap.size + 1 + 1; omega) _
  clear hW0
  have hK := Since.refl W0
  by_cases r1 : srightB na xs = true
  · by_cases r2 : srightB nb ys = true
    · have R1 := Lib.hid r1
      have R2 := Lib.hid r2
      have g1 := sright_right r1
      have g2 := sright_right r2
      have hm := mul_split na nb xs ys r1 r2
      rw [← EZ.out] at hm
      clear r1 r2
      obtain ⟨ds, x, hd, hx⟩ : ∃ ds x, mulD xs ys = (ds, x) ∧ (x = 0 ∨ (x = 3 ∧ ds = [])) := by
        rw [mulD, if_pos ⟨g1, g2⟩, fitD]; split
        · exact ⟨_, _, rfl, .inl rfl⟩
        · exact ⟨_, _, rfl, .inr ⟨rfl, rfl⟩⟩
      rw [hd] at hm
      have HD := Lib.hid hd
      have HL := Lib.hid (show ds.length ≤ 1000000 by have := mulD_len xs ys; rw [hd] at this; simp only at this; omega)
      clear hd g1 g2
      have hsg : (!na == nb) = (na != nb) := by cases na <;> cases nb <;> rfl
      rcases hx with rfl | ⟨rfl, rfl⟩
      · have E := Lib.hid (show Z = ((signB (na != nb) ds, ds), 0) from hm)
        clear hm
        go_enter Tryz.func72, Tryz.ntmps72
        go_wp2_with fail
        rw [← HW.out]
        go_wp2_with (first
          | (go_at_call 65; (with_reducible refine (right_any (.slice A0 n0 c0) na xs _ (H.out.1.since (hS0.trans hK)) (by have := LL.out; omega)).mono ?_); rw [R1.out]; rintro e w1 ⟨rfl, h⟩; have hK := hK.trans h; obtain ⟨⟨k0, k1, k2, k3⟩, _⟩ := hold.out _ hK; obtain ⟨q0, q1, q2, q3⟩ := hk.out _ hK)
          | (go_at_call 65; (with_reducible refine (right_any (.slice A1 n1 c1) nb ys _ (H.out.2.since (hS0.trans hK)) (by have := LL.out; omega)).mono ?_); rw [R2.out]; rintro e w2 ⟨rfl, h⟩; have hK := hK.trans h; obtain ⟨⟨k0, k1, k2, k3⟩, _⟩ := hold.out _ hK; obtain ⟨q0, q1, q2, q3⟩ := hk.out _ hK)
          | (go_at_call 94; (with_reducible refine (mul_sl (.slice A0 n0 c0) (.slice A1 n1 c1) xs ys _ (H.out.1.since (hS0.trans hK)) (H.out.2.since (hS0.trans hK)) (by have := LL.out; omega) (by have := LL.out; omega) HD.out).mono ?_); rintro e w3 ⟨A2, c2, rfl, hr, h⟩; have hK := hK.trans h; obtain ⟨⟨k0, k1, k2, k3⟩, _⟩ := hold.out _ hK; obtain ⟨q0, q1, q2, q3⟩ := hk.out _ hK)
          | (go_at_call 66; (with_reducible refine (number_any (.slice A2 ds.length c2) _ ds _ hr HL.out).mono ?_); rintro e w4 ⟨rfl, h⟩; have hr := hr.since h; have hK := hK.trans h; obtain ⟨⟨k0, k1, k2, k3⟩, _⟩ := hold.out _ hK; obtain ⟨q0, q1, q2, q3⟩ := hk.out _ hK))
        refine bodyPost_ret (v := .tuple #[sv (signB (na != nb) ds) (.slice A2 ds.length c2), .int .i64 0]) ?_ rfl ?_
        · simp [results, Tryz.results72, go_sem, q0, q1]
        · show RetZ Z w _ _
          rw [E.out]
          exact ⟨_, _, rfl, row_set3 hr (hb.out _ hK) _ _, setS hK⟩
      · have E := Lib.hid (show Z = ((false, []), 3) from by rw [hm]; simp [signB])
        clear hm
        go_enter Tryz.func72, Tryz.ntmps72
        go_wp2_with fail
        rw [← HW.out]
        go_wp2_with (first
          | (go_at_call 65; (with_reducible refine (right_any (.slice A0 n0 c0) na xs _ (H.out.1.since (hS0.trans hK)) (by have := LL.out; omega)).mono ?_); rw [R1.out]; rintro e w1 ⟨rfl, h⟩; have hK := hK.trans h; obtain ⟨⟨k0, k1, k2, k3⟩, _⟩ := hold.out _ hK; obtain ⟨q0, q1, q2, q3⟩ := hk.out _ hK)
          | (go_at_call 65; (with_reducible refine (right_any (.slice A1 n1 c1) nb ys _ (H.out.2.since (hS0.trans hK)) (by have := LL.out; omega)).mono ?_); rw [R2.out]; rintro e w2 ⟨rfl, h⟩; have hK := hK.trans h; obtain ⟨⟨k0, k1, k2, k3⟩, _⟩ := hold.out _ hK; obtain ⟨q0, q1, q2, q3⟩ := hk.out _ hK)
          | (go_at_call 94; (with_reducible refine (mul_sl (.slice A0 n0 c0) (.slice A1 n1 c1) xs ys _ (H.out.1.since (hS0.trans hK)) (H.out.2.since (hS0.trans hK)) (by have := LL.out; omega) (by have := LL.out; omega) HD.out).mono ?_); rintro e w3 ⟨A2, c2, rfl, hr, h⟩; have hK := hK.trans h; obtain ⟨⟨k0, k1, k2, k3⟩, _⟩ := hold.out _ hK; obtain ⟨q0, q1, q2, q3⟩ := hk.out _ hK))
        refine bodyPost_ret (v := .tuple #[sv false (.slice none 0 0), .int .i64 3]) ?_ rfl ?_
        · simp [results, Tryz.results72, go_sem, q0, q1]
        · show RetZ Z w _ _
          rw [E.out]
          exact ⟨_, _, rfl, Row.nil _, setS hK⟩
    · have R1 := Lib.hid r1
      have R2 := Lib.hid (show srightB nb ys = false by simpa using r2)
      have E := Lib.hid (show Z = ((false, []), 2) by rw [EZ.out, mulZ, if_neg (fun h => r2 h.2)])
      clear r1 r2
      go_enter Tryz.func72, Tryz.ntmps72
      go_wp2_with fail
      rw [← HW.out]
      go_wp2_with (first
        | (go_at_call 65; (with_reducible refine (right_any (.slice A0 n0 c0) na xs _ (H.out.1.since (hS0.trans hK)) (by have := LL.out; omega)).mono ?_); rw [R1.out]; rintro e w1 ⟨rfl, h⟩; have hK := hK.trans h; obtain ⟨⟨k0, k1, k2, k3⟩, _⟩ := hold.out _ hK; obtain ⟨q0, q1, q2, q3⟩ := hk.out _ hK)
        | (go_at_call 65; (with_reducible refine (right_any (.slice A1 n1 c1) nb ys _ (H.out.2.since (hS0.trans hK)) (by have := LL.out; omega)).mono ?_); rw [R2.out]; rintro e w2 ⟨rfl, h⟩; have hK := hK.trans h; obtain ⟨⟨k0, k1, k2, k3⟩, _⟩ := hold.out _ hK; obtain ⟨q0, q1, q2, q3⟩ := hk.out _ hK))
      refine bodyPost_ret (v := .tuple #[sv false (.slice none 0 0), .int .i64 2]) ?_ rfl ?_
      · simp [results, Tryz.results72, go_sem, q0, q1]
      · show RetZ Z w _ _
        rw [E.out]
        exact ⟨_, _, rfl, Row.nil _, setS hK⟩
  · have R1 := Lib.hid (show srightB na xs = false by simpa using r1)
    have E := Lib.hid (show Z = ((false, []), 2) by rw [EZ.out, mulZ, if_neg (fun h => r1 h.1)])
    clear r1
    go_enter Tryz.func72, Tryz.ntmps72
    go_wp2_with fail
    rw [← HW.out]
    go_wp2_with (first
      | (go_at_call 65; (with_reducible refine (right_any (.slice A0 n0 c0) na xs _ (H.out.1.since (hS0.trans hK)) (by have := LL.out; omega)).mono ?_); rw [R1.out]; rintro e w1 ⟨rfl, h⟩; have hK := hK.trans h; obtain ⟨⟨k0, k1, k2, k3⟩, _⟩ := hold.out _ hK; obtain ⟨q0, q1, q2, q3⟩ := hk.out _ hK))
    refine bodyPost_ret (v := .tuple #[sv false (.slice none 0 0), .int .i64 2]) ?_ rfl ?_
    · simp [results, Tryz.results72, go_sem, q0, q1]
    · show RetZ Z w _ _
      rw [E.out]
      exact ⟨_, _, rfl, Row.nil _, setS hK⟩

end Go.Proofs.YtbbemgeinlehmaaGreatDoor.Sg03

namespace Go.Proofs.YtbbemgeinlehmaaGreatDoor.Sg03
open Go.RowKit
set_option linter.unusedVariables false
open Go.Proofs.YtbbemgeinlehmaaGreatDoor.Dig
open Go.Proofs.YtbbemgeinlehmaaGreatDoor.Ref03


theorem cmp_at (va vb : Value) (xs ys : List Nat) (w : World) (hx : Row w va xs) (hy : Row w vb ys) (lx : xs.length ≤ 10000) (ly : ys.length ≤ 10000) {c x : Int} (h : cmpD xs ys = (c, x)) :
    Calls Tryz.prog 79 #[va, vb] w fun e w' => e = .returned (.tuple #[.int .i64 c, .int .i64 x]) ∧ Since w w' := by
  have := Nat02.cmp_any va vb xs ys w hx hy lx ly
  rw [h] at this
  exact this
theorem sub_at (va vb : Value) (xs ys : List Nat) (w : World) (hx : Row w va xs) (hy : Row w vb ys) (lx : xs.length ≤ 10000) (ly : ys.length ≤ 10000) {ds : List Nat} {x : Int} (h : subD xs ys = (ds, x)) :
    Calls Tryz.prog 91 #[va, vb] w (RetSlErr (ds, x) w) := by
  have := Nat02.sub_any va vb xs ys w hx hy lx ly
  rw [h] at this
  exact this.mono fun _ _ k => RetSlErr.of k
theorem add_at (va vb : Value) (xs ys : List Nat) (w : World) (hx : Row w va xs) (hy : Row w vb ys) (lx : xs.length ≤ 10000) (ly : ys.length ≤ 10000) {ds : List Nat} {x : Int} (h : addD xs ys = (ds, x)) :
    Calls Tryz.prog 71 #[va, vb] w (RetSlErr (ds, x) w) := by
  have := Nat02.add_any va vb xs ys w hx hy lx ly
  rw [h] at this
  exact this.mono fun _ _ k => RetSlErr.of k
theorem sgn_add (b : Bool) (X Y : Nat) : sgn b X + sgn b Y = sgn b (X + Y) := by
  cases b <;> simp [sgn] <;> omega
theorem sgn_less {a b : Bool} {X Y : Nat} (hab : (a == b) = false) (h : X < Y) : sgn a X + sgn b Y = sgn b (Y - X) := by
  cases a <;> cases b <;> simp at hab <;> simp [sgn] <;> omega
theorem sgn_more {a b : Bool} {X Y : Nat} (hab : (a == b) = false) (h : Y ≤ X) : sgn a X + sgn b Y = sgn a (X - Y) := by
  cases a <;> cases b <;> simp at hab <;> simp [sgn] <;> omega

theorem block_cells {W : World} {b : Nat} {z0 z1 : Value} {t : TypeId} (h : W.heap[b]? = some (.cells #[z0, z1] t)) :
    W.cell? ⟨b, 0, none⟩ = some z0 ∧ W.cell? ⟨b, 1, none⟩ = some z1 ∧ W.frozen? ⟨b, 0, none⟩ = false ∧ W.frozen? ⟨b, 1, none⟩ = false := by
  refine ⟨cell_of_row W b 0 _ t _ h, cell_of_row W b 1 _ t _ h, ?_, ?_⟩ <;> simp [World.frozen?, h]

/-- two boxed numbers are set anew: what they hold then, and all else stays -/
theorem swap_cells {w W W1 : World} {na nb : Bool} {A : Option Addr} {n c : Nat} {B : Option Addr} {m d : Nat} {t : TypeId}
    (h : Since (((w.alloc (.cells #[.bool na, .slice A n c] t)).alloc (.cells #[.bool nb, .slice B m d] t)).alloc (.cells #[.bool false, .slice none 0 0] t)) W) {u0 u1 u2 u3 : Value}
    (hW1 : W1 = (((W.setCell ⟨w.heap.size, 0, none⟩ u0).setCell ⟨w.heap.size, 1, none⟩ u1).setCell ⟨w.heap.size + 1, 0, none⟩ u2).setCell ⟨w.heap.size + 1, 1, none⟩ u3) :
    ((W1.cell? ⟨w.heap.size, 0, none⟩ = some u0 ∧ W1.cell? ⟨w.heap.size, 1, none⟩ = some u1 ∧ W1.cell? ⟨w.heap.size + 1, 0, none⟩ = some u2 ∧ W1.cell? ⟨w.heap.size + 1, 1, none⟩ = some u3) ∧ W1.heap[w.heap.size + 1 + 1]? = some (.cells #[.bool false, .slice none 0 0] t)) ∧
    Since w W1 ∧ ∀ v ds, Row W v ds → Row W1 v ds := by
  have hs : w.heap.size + 1 + 1 + 1 ≤ W.heap.size := by have := h.size; simpa using this
  obtain ⟨k0, k1, k2, k3⟩ := hold2 h
  have b0 : W.heap[w.heap.size]? = some (.cells #[.bool na, .slice A n c] t) := block_new ((since_alloc _ _).trans ((since_alloc _ _).trans h))
  have b1 : W.heap[w.heap.size + 1]? = some (.cells #[.bool nb, .slice B m d] t) := by
    have e := block_new ((since_alloc _ _).trans h)
    rwa [show (w.alloc (.cells #[.bool na, .slice A n c] t)).heap.size = w.heap.size + 1 by simp] at e
  have b2 : W.heap[w.heap.size + 1 + 1]? = some (.cells #[.bool false, .slice none 0 0] t) := by
    have e := block_new h
    rwa [show ((w.alloc (.cells #[.bool na, .slice A n c] t)).alloc (.cells #[.bool nb, .slice B m d] t)).heap.size = w.heap.size + 1 + 1 by simp] at e
  have e1 : ∀ k, k ≠ w.heap.size → ((W.setCell ⟨w.heap.size, 0, none⟩ u0).setCell ⟨w.heap.size, 1, none⟩ u1).heap[k]? = W.heap[k]? := fun k hk => by
    rw [Below.heap_setCell _ _ _ _ (by simpa using hk), Below.heap_setCell _ _ _ _ (by simpa using hk)]
  have e2 : ∀ (V : World) k, k ≠ w.heap.size + 1 → ((V.setCell ⟨w.heap.size + 1, 0, none⟩ u2).setCell ⟨w.heap.size + 1, 1, none⟩ u3).heap[k]? = V.heap[k]? := fun V k hk => by
    rw [Below.heap_setCell _ _ _ _ (by simpa using hk), Below.heap_setCell _ _ _ _ (by simpa using hk)]
  refine ⟨⟨?_, ?_⟩, ?_, ?_⟩
  · subst hW1
    refine ⟨?_, ?_, ?_, ?_⟩
    all_goals go_simp
  · rw [hW1, e2 _ _ (by omega), e1 _ (by omega)]; exact b2
  · rw [hW1]
    exact ((((((((Since.refl w).alloc _).alloc _).alloc _).trans h).set (Nat.le_refl _) _).set (Nat.le_refl _) _).set (by show w.heap.size ≤ w.heap.size + 1; omega) _).set (by show w.heap.size ≤ w.heap.size + 1; omega) _
  · intro v ds hr
    have h1 := row_far (W' := (W.setCell ⟨w.heap.size, 0, none⟩ u0).setCell ⟨w.heap.size, 1, none⟩ u1) hr b0 e1
    rw [hW1]
    exact row_far h1 ((e1 _ (by omega)).trans b1) (e2 _)

theorem boxes_free {w W : World} {na nb : Bool} {ma mb : Value} {t : TypeId} {o : Obj} (h : Since (((w.alloc (.cells #[.bool na, ma] t)).alloc (.cells #[.bool nb, mb] t)).alloc o) W) :
    W.frozen? ⟨w.heap.size, 0, none⟩ = false ∧ W.frozen? ⟨w.heap.size, 1, none⟩ = false ∧ W.frozen? ⟨w.heap.size + 1, 0, none⟩ = false ∧ W.frozen? ⟨w.heap.size + 1, 1, none⟩ = false := by
  obtain ⟨_, _, h0, h1⟩ := keep2 ((since_alloc _ _).trans ((since_alloc _ _).trans h))
  obtain ⟨_, _, h2, h3⟩ := keep2of ((since_alloc _ _).trans h)
  exact ⟨h0, h1, h2, h3⟩
set_option maxRecDepth 100000 in
set_option maxHeartbeats 2000000 in
theorem unlike_any (A0 A1 : Option Addr) (c0 c1 : Nat) (na nb : Bool) (xs ys : List Nat) (w : World) (hx : Row w (.slice A0 xs.length c0) xs) (hy : Row w (.slice A1 ys.length c1) ys) (lx : xs.length ≤ 1000) (ly : ys.length ≤ 1000) (hs : (na == nb) = false) (r1 : srightB na xs = true) (r2 : srightB nb ys = true) :
    Calls Tryz.prog 70 #[sv na (.slice A0 xs.length c0), sv nb (.slice A1 ys.length c1)] w (RetS (ngB (sval na xs + sval nb ys)) (mag (sval na xs + sval nb ys)) w) := by
  have g1 := sright_right r1
  have g2 := sright_right r2
  obtain ⟨Z, hZ⟩ : ∃ Z, Z = sval na xs + sval nb ys := ⟨_, rfl⟩
  rw [← hZ]
  rw [sval_sgn, sval_sgn] at hZ
  by_cases hlt : num xs < num ys
  · rw [sgn_less hs hlt] at hZ
    have hz := ng_sgn nb (num ys - num xs)
    rw [← hZ] at hz
    have HC := Lib.hid (show cmpD xs ys = (-1, 0) by rw [show cmpD xs ys = _ from if_pos ⟨g1, g2⟩, if_pos hlt])
    have HD := Lib.hid (show subD ys xs = (digs (num ys - num xs), 0) from if_pos ⟨⟨g2, g1⟩, by omega⟩)
    have HZ := Lib.hid hz
    have HL := Lib.hid (show (digs (num ys - num xs)).length ≤ 1000000 from Nat.le_trans (digs_len_mono (Nat.sub_le _ _)) (Nat.le_trans (digs_len_num hy.dig) (by omega)))
    obtain ⟨ds, hds⟩ : ∃ ds, ds = digs (num ys - num xs) := ⟨_, rfl⟩
    rw [← hds] at HD HZ HL
    clear hlt hZ hz r1 r2 g1 g2 hds
    have H := Lib.hid (And.intro hx hy)
    have LL := Lib.hid (And.intro lx ly)
    clear hx hy lx ly
    obtain ⟨n0, hn0⟩ : ∃ n, n = xs.length := ⟨_, rfl⟩
    rw [← hn0] at H ⊢
    obtain ⟨n1, hn1⟩ : ∃ n, n = ys.length := ⟨_, rfl⟩
    rw [← hn1] at H ⊢
    clear hn0 hn1
    obtain ⟨W0, hW0⟩ : ∃ W0, W0 = ((w.alloc (.cells #[.bool na, .slice A0 n0 c0] 29)).alloc (.cells #[.bool nb, .slice A1 n1 c1] 29)).alloc (.cells #[.bool false, .slice none 0 0] 29) := ⟨_, rfl⟩
    have HW := Lib.hid hW0
    have hS0 : Since w W0 := by rw [hW0]; exact (((Since.refl w).alloc _).alloc _).alloc _
    have hold : Hid (∀ W : World, Since W0 W → (W.cell? ⟨w.heap.size, 0, none⟩ = some (.bool na) ∧ W.cell? ⟨w.heap.size, 1, none⟩ = some (.slice A0 n0 c0) ∧ W.cell? ⟨w.heap.size + 1, 0, none⟩ = some (.bool nb) ∧ W.cell? ⟨w.heap.size + 1, 1, none⟩ = some (.slice A1 n1 c1)) ∧ Since w W) := fun W h => ⟨hold2 (hW0 ▸ h), hS0.trans h⟩
    have hk : Hid (∀ W : World, Since W0 W → W.cell? ⟨w.heap.size + 1 + 1, 0, none⟩ = some (.bool false) ∧ W.cell? ⟨w.heap.size + 1 + 1, 1, none⟩ = some (.slice none 0 0) ∧ W.frozen? ⟨w.heap.size + 1 + 1, 0, none⟩ = false ∧ W.frozen? ⟨w.heap.size + 1 + 1, 1, none⟩ = false) := fun W h => keep3 (hW0 ▸ h)
    have hb : Hid (∀ W : World, Since W0 W → Since (((w.alloc (.cells #[.bool na, .slice A0 n0 c0] 29)).alloc (.cells #[.bool nb, .slice A1 n1 c1] 29)).alloc (.cells #[.bool false, .slice none 0 0] 29)) W) := fun W h => hW0 ▸ h
    have setS : ∀ {W : World} {u0 u1 : Value}, Since W0 W → Since w ((W.setCell ⟨w.heap.size + 1 + 1, 0, none⟩ u0).setCell ⟨w.heap.size + 1 + 1, 1, none⟩ u1) := fun h => ((hS0.trans h).set (by show w.heap.size ≤ w.heap.size + 1 + 1; omega) _).set (by show w.heap.size ≤ w.heap.size + 1 + 1; omega) _
    clear hW0
    have hK := Since.refl W0
    go_enter Tryz.func70, Tryz.ntmps70
    go_wp2_with fail
    rw [← HW.out]
    go_upto_region 4 with (first
      | (go_at_call 79; (with_reducible refine (cmp_at (.slice A0 n0 c0) (.slice A1 n1 c1) xs ys _ (H.out.1.since (hS0.trans hK)) (H.out.2.since (hS0.trans hK)) (by have := LL.out; omega) (by have := LL.out; omega) HC.out).mono ?_); rintro e w3 ⟨rfl, h⟩; have hK := hK.trans h; obtain ⟨⟨k0, k1, k2, k3⟩, _⟩ := hold.out _ hK; obtain ⟨q0, q1, q2, q3⟩ := hk.out _ hK; obtain ⟨f0, f1, f2, f3⟩ := boxes_free (hb.out _ hK)))
    obtain ⟨W1, hW1⟩ : ∃ W1, W1 = (((w3.setCell ⟨w.heap.size, 0, none⟩ (.bool nb)).setCell ⟨w.heap.size, 1, none⟩ (.slice A1 n1 c1)).setCell ⟨w.heap.size + 1, 0, none⟩ (.bool na)).setCell ⟨w.heap.size + 1, 1, none⟩ (.slice A0 n0 c0) := ⟨_, rfl⟩
    rw [← hW1]
    obtain ⟨⟨⟨k0, k1, k2, k3⟩, kb⟩, hw1, hrow⟩ := swap_cells (hb.out _ hK) hW1
    have RX := Lib.hid (hrow _ _ (H.out.1.since (hS0.trans hK)))
    have RY := Lib.hid (hrow _ _ (H.out.2.since (hS0.trans hK)))
    have KB := Lib.hid kb
    have C0 := Lib.hid k0
    clear hW1 hrow q0 q1 q2 q3 kb hK f0 f1 f2 f3
    have hK := Since.refl W1
    have B2 : Hid (∀ W, Since W1 W → W.heap[w.heap.size + 1 + 1]? = some (.cells #[.bool false, .slice none 0 0] 29)) := fun W k => (k.block _ (by have := (Array.getElem?_eq_some_iff.1 KB.out).1; exact this)).trans KB.out
    have hold1 : Hid (∀ W, Since W1 W → W.cell? ⟨w.heap.size, 0, none⟩ = some (.bool nb)) := fun W k => (k.cell ⟨w.heap.size, 0, none⟩ (World.block_lt_of_cell? _ _ C0.out)).trans C0.out
    go_wp2_with (first
      | (go_at_call 91; (with_reducible refine (sub_at (.slice A1 n1 c1) (.slice A0 n0 c0) ys xs _ RY.out RX.out (by have := LL.out; omega) (by have := LL.out; omega) HD.out).mono ?_); rintro e w4 ⟨A2, c2, rfl, hr, h⟩; have hK := hK.trans h; have k0 := hold1.out _ hK)
      | (go_at_call 66; (with_reducible refine (number_any (.slice A2 ds.length c2) nb ds _ hr HL.out).mono ?_); rintro e w5 ⟨rfl, h⟩; have hr := hr.since h; have hK := hK.trans h; have hB := B2.out _ hK; obtain ⟨q0, q1, q2, q3⟩ := block_cells hB))
    refine bodyPost_ret (v := sv (signB nb ds) (.slice A2 ds.length c2)) ?_ rfl ?_
    · simp [results, Tryz.results70, go_sem, q0, q1]
    · rw [← HZ.out.1, ← HZ.out.2]
      exact ⟨_, _, rfl, row_far hr hB (fun k hk => by rw [Below.heap_setCell _ _ _ _ (by simpa using hk), Below.heap_setCell _ _ _ _ (by simpa using hk)]), ((hw1.trans hK).set (by show w.heap.size ≤ w.heap.size + 1 + 1; omega) _).set (by show w.heap.size ≤ w.heap.size + 1 + 1; omega) _⟩
  · rw [sgn_more hs (by omega)] at hZ
    have hz := ng_sgn na (num xs - num ys)
    rw [← hZ] at hz
    obtain ⟨c, hc, hcn⟩ : ∃ c : Int, cmpD xs ys = (c, 0) ∧ 0 ≤ c := by
      rw [show cmpD xs ys = _ from if_pos ⟨g1, g2⟩, if_neg hlt]; split
      · exact ⟨_, rfl, by omega⟩
      · exact ⟨_, rfl, by omega⟩
    have HC := Lib.hid hc
    have HD := Lib.hid (show subD xs ys = (digs (num xs - num ys), 0) from if_pos ⟨⟨g1, g2⟩, by omega⟩)
    have HZ := Lib.hid hz
    have HL := Lib.hid (show (digs (num xs - num ys)).length ≤ 1000000 from Nat.le_trans (digs_len_mono (Nat.sub_le _ _)) (Nat.le_trans (digs_len_num hx.dig) (by omega)))
    obtain ⟨ds, hds⟩ : ∃ ds, ds = digs (num xs - num ys) := ⟨_, rfl⟩
    rw [← hds] at HD HZ HL
    clear hlt hZ hz r1 r2 g1 g2 hds hc
    have hcd : decide (c < 0) = false := by rw [decide_eq_false_iff_not]; omega
    have H := Lib.hid (And.intro hx hy)
    have LL := Lib.hid (And.intro lx ly)
    clear hx hy lx ly
    obtain ⟨n0, hn0⟩ : ∃ n, n = xs.length := ⟨_, rfl⟩
    rw [← hn0] at H ⊢
    obtain ⟨n1, hn1⟩ : ∃ n, n = ys.length := ⟨_, rfl⟩
    rw [← hn1] at H ⊢
    clear hn0 hn1
    obtain ⟨W0, hW0⟩ : ∃ W0, W0 = ((w.alloc (.cells #[.bool na, .slice A0 n0 c0] 29)).alloc (.cells #[.bool nb, .slice A1 n1 c1] 29)).alloc (.cells #[.bool false, .slice none 0 0] 29) := ⟨_, rfl⟩
    have HW := Lib.hid hW0
    have hS0 : Since w W0 := by rw [hW0]; exact (((Since.refl w).alloc _).alloc _).alloc _
    have hold : Hid (∀ W : World, Since W0 W → (W.cell? ⟨w.heap.size, 0, none⟩ = some (.bool na) ∧ W.cell? ⟨w.heap.size, 1, none⟩ = some (.slice A0 n0 c0) ∧ W.cell? ⟨w.heap.size + 1, 0, none⟩ = some (.bool nb) ∧ W.cell? ⟨w.heap.size + 1, 1, none⟩ = some (.slice A1 n1 c1)) ∧ Since w W) := fun W h => ⟨hold2 (hW0 ▸ h), hS0.trans h⟩
    have hk : Hid (∀ W : World, Since W0 W → W.cell? ⟨w.heap.size + 1 + 1, 0, none⟩ = some (.bool false) ∧ W.cell? ⟨w.heap.size + 1 + 1, 1, none⟩ = some (.slice none 0 0) ∧ W.frozen? ⟨w.heap.size + 1 + 1, 0, none⟩ = false ∧ W.frozen? ⟨w.heap.size + 1 + 1, 1, none⟩ = false) := fun W h => keep3 (hW0 ▸ h)
    have hb : Hid (∀ W : World, Since W0 W → Since (((w.alloc (.cells #[.bool na, .slice A0 n0 c0] 29)).alloc (.cells #[.bool nb, .slice A1 n1 c1] 29)).alloc (.cells #[.bool false, .slice none 0 0] 29)) W) := fun W h => hW0 ▸ h
    have setS : ∀ {W : World} {u0 u1 : Value}, Since W0 W → Since w ((W.setCell ⟨w.heap.size + 1 + 1, 0, none⟩ u0).setCell ⟨w.heap.size + 1 + 1, 1, none⟩ u1) := fun h => ((hS0.trans h).set (by show w.heap.size ≤ w.heap.size + 1 + 1; omega) _).set (by show w.heap.size ≤ w.heap.size + 1 + 1; omega) _
    clear hW0
    have hK := Since.refl W0
    go_enter Tryz.func70, Tryz.ntmps70
    go_wp2_with fail
    rw [← HW.out]
    go_wp2_with (first
      | (go_at_call 79; (with_reducible refine (cmp_at (.slice A0 n0 c0) (.slice A1 n1 c1) xs ys _ (H.out.1.since (hS0.trans hK)) (H.out.2.since (hS0.trans hK)) (by have := LL.out; omega) (by have := LL.out; omega) HC.out).mono ?_); rintro e w3 ⟨rfl, h⟩; have hK := hK.trans h; obtain ⟨⟨k0, k1, k2, k3⟩, _⟩ := hold.out _ hK; obtain ⟨q0, q1, q2, q3⟩ := hk.out _ hK; obtain ⟨f0, f1, f2, f3⟩ := boxes_free (hb.out _ hK))
      | (go_at_call 91; (with_reducible refine (sub_at (.slice A0 n0 c0) (.slice A1 n1 c1) xs ys _ (H.out.1.since (hS0.trans hK)) (H.out.2.since (hS0.trans hK)) (by have := LL.out; omega) (by have := LL.out; omega) HD.out).mono ?_); rintro e w4 ⟨A2, c2, rfl, hr, h⟩; have hK := hK.trans h; obtain ⟨⟨k0, k1, k2, k3⟩, _⟩ := hold.out _ hK; obtain ⟨q0, q1, q2, q3⟩ := hk.out _ hK)
      | (go_at_call 66; (with_reducible refine (number_any (.slice A2 ds.length c2) na ds _ hr HL.out).mono ?_); rintro e w5 ⟨rfl, h⟩; have hr := hr.since h; have hK := hK.trans h; obtain ⟨⟨k0, k1, k2, k3⟩, _⟩ := hold.out _ hK; obtain ⟨q0, q1, q2, q3⟩ := hk.out _ hK))
    refine bodyPost_ret (v := sv (signB na ds) (.slice A2 ds.length c2)) ?_ rfl ?_
    · simp [results, Tryz.results70, go_sem, q0, q1]
    · rw [← HZ.out.1, ← HZ.out.2]
      exact ⟨_, _, rfl, row_set3 hr (hb.out _ hK) _ _, setS hK⟩

end Go.Proofs.YtbbemgeinlehmaaGreatDoor.Sg03

namespace Go.Proofs.YtbbemgeinlehmaaGreatDoor.Sg03
open Go.RowKit
set_option linter.unusedVariables false
open Go.Proofs.YtbbemgeinlehmaaGreatDoor.Dig
open Go.Proofs.YtbbemgeinlehmaaGreatDoor.Ref03


theorem unlike_len (na nb : Bool) (xs ys : List Nat) (hs : (na == nb) = false) (dx : IsDig xs) (dy : IsDig ys) (lx : xs.length ≤ 256) (ly : ys.length ≤ 256) : (mag (sval na xs + sval nb ys)).length ≤ 256 := by
  rw [sval_sgn, sval_sgn]
  by_cases h : num xs < num ys
  · rw [sgn_less hs h, ← (ng_sgn nb _).2]
    exact Nat.le_trans (digs_len_mono (Nat.sub_le _ _)) (Nat.le_trans (digs_len_num dy) ly)
  · rw [sgn_more hs (by omega), ← (ng_sgn na _).2]
    exact Nat.le_trans (digs_len_mono (Nat.sub_le _ _)) (Nat.le_trans (digs_len_num dx) lx)
set_option maxRecDepth 100000 in
set_option maxHeartbeats 2000000 in
theorem add_any (A0 A1 : Option Addr) (c0 c1 : Nat) (na nb : Bool) (xs ys : List Nat) (w : World) (hx : Row w (.slice A0 xs.length c0) xs) (hy : Row w (.slice A1 ys.length c1) ys) (lx : xs.length ≤ 1000) (ly : ys.length ≤ 1000) :
    Calls Tryz.prog 41 #[sv na (.slice A0 xs.length c0), sv nb (.slice A1 ys.length c1)] w (RetZ (addZ na xs nb ys) w) := by
  obtain ⟨Z, hZ⟩ : ∃ Z, Z = addZ na xs nb ys := ⟨_, rfl⟩
  rw [← hZ]
  have EZ := Lib.hid hZ
  clear hZ
  have DX := Lib.hid hx.dig
  have DY := Lib.hid hy.dig
  have UN := Lib.hid (fun (W : World) (gx : Row W (.slice A0 xs.length c0) xs) (gy : Row W (.slice A1 ys.length c1) ys) hs r1 r2 => unlike_any A0 A1 c0 c1 na nb xs ys W gx gy lx ly hs r1 r2)
  have H := Lib.hid (And.intro hx hy)
  have LL := Lib.hid (And.intro lx ly)
  clear hx hy lx ly
  obtain ⟨n0, hn0⟩ : ∃ n, n = xs.length := ⟨_, rfl⟩
  rw [← hn0] at H UN ⊢
  obtain ⟨n1, hn1⟩ : ∃ n, n = ys.length := ⟨_, rfl⟩
  rw [← hn1] at H UN ⊢
  clear hn0 hn1
  obtain ⟨W0, hW0⟩ : ∃ W0, W0 = ((w.alloc (.cells #[.bool na, .slice A0 n0 c0] 29)).alloc (.cells #[.bool nb, .slice A1 n1 c1] 29)).alloc (.cells #[.bool false, .slice none 0 0] 29) := ⟨_, rfl⟩
  have HW := Lib.hid hW0
  have hS0 : Since w W0 := by rw [hW0]; exact (((Since.refl w).alloc _).alloc _).alloc _
  have hold : Hid (∀ W : World, Since W0 W → (W.cell? ⟨w.heap.size, 0, none⟩ = some (.bool na) ∧ W.cell? ⟨w.heap.size, 1, none⟩ = some (.slice A0 n0 c0) ∧ W.cell? ⟨w.heap.size + 1, 0, none⟩ = some (.bool nb) ∧ W.cell? ⟨w.heap.size + 1, 1, none⟩ = some (.slice A1 n1 c1)) ∧ Since w W) := fun W h => ⟨hold2 (hW0 ▸ h), hS0.trans h⟩
  have hk : Hid (∀ W : World, Since W0 W → W.cell? ⟨w.heap.size + 1 + 1, 0, none⟩ = some (.bool false) ∧ W.cell? ⟨w.heap.size + 1 + 1, 1, none⟩ = some (.slice none 0 0) ∧ W.frozen? ⟨w.heap.size + 1 + 1, 0, none⟩ = false ∧ W.frozen? ⟨w.heap.size + 1 + 1, 1, none⟩ = false) := fun W h => keep3 (hW0 ▸ h)
  have hb : Hid (∀ W : World, Since W0 W → Since (((w.alloc (.cells #[.bool na, .slice A0 n0 c0] 29)).alloc (.cells #[.bool nb, .slice A1 n1 c1] 29)).alloc (.cells #[.bool false, .slice none 0 0] 29)) W) := fun W h => hW0 ▸ h
  have setS : ∀ {W : World} {u0 u1 : Value}, Since W0 W → Since w ((W.setCell ⟨w.heap.size + 1 + 1, 0, none⟩ u0).setCell ⟨w.heap.size + 1 + 1, 1, none⟩ u1) := fun h => ((hS0.trans h).set (by show w.heap.size ≤ w.heap.size + 1 + 1; omega) _).set (by show w.heap.size ≤ w.heap.size + 1 + 1; omega) _
  clear hW0
  have hK := Since.refl W0
  by_cases r1 : srightB na xs = true
  · by_cases r2 : srightB nb ys = true
    · have R1 := Lib.hid r1
      have R2 := Lib.hid r2
      have g1 := sright_right r1
      have g2 := sright_right r2
      cases hs : (na == nb)
      · have HS := Lib.hid hs
        have hsg : (!na == nb) = true := by cases na <;> cases nb <;> simp_all
        have E := Lib.hid (show Z = ((ngB (sval na xs + sval nb ys), mag (sval na xs + sval nb ys)), 0) by
          rw [EZ.out, addZ, if_pos ⟨r1, r2⟩, fitZ, if_pos (unlike_len na nb xs ys hs DX.out DY.out (right_norm g1).1 (right_norm g2).1)])
        obtain ⟨z, hz⟩ : ∃ z, z = sval na xs + sval nb ys := ⟨_, rfl⟩
        rw [← hz] at E UN
        clear r1 r2 g1 g2 hs hz
        go_enter Tryz.func41, Tryz.ntmps41
        go_wp2_with fail
        rw [← HW.out]
        go_wp2_with (first
          | (go_at_call 65; (with_reducible refine (right_any (.slice A0 n0 c0) na xs _ (H.out.1.since (hS0.trans hK)) (by have := LL.out; omega)).mono ?_); rw [R1.out]; rintro e w1 ⟨rfl, h⟩; have hK := hK.trans h; obtain ⟨⟨k0, k1, k2, k3⟩, _⟩ := hold.out _ hK; obtain ⟨q0, q1, q2, q3⟩ := hk.out _ hK)
          | (go_at_call 65; (with_reducible refine (right_any (.slice A1 n1 c1) nb ys _ (H.out.2.since (hS0.trans hK)) (by have := LL.out; omega)).mono ?_); rw [R2.out]; rintro e w2 ⟨rfl, h⟩; have hK := hK.trans h; obtain ⟨⟨k0, k1, k2, k3⟩, _⟩ := hold.out _ hK; obtain ⟨q0, q1, q2, q3⟩ := hk.out _ hK)
          | (go_at_call 70; (with_reducible refine (UN.out _ (H.out.1.since (hS0.trans hK)) (H.out.2.since (hS0.trans hK)) HS.out R1.out R2.out).mono ?_); rintro e w3 ⟨A2, c2, rfl, hr, h⟩; have hK := hK.trans h; obtain ⟨⟨k0, k1, k2, k3⟩, _⟩ := hold.out _ hK; obtain ⟨q0, q1, q2, q3⟩ := hk.out _ hK))
        refine bodyPost_ret (v := .tuple #[sv (ngB z) (.slice A2 (mag z).length c2), .int .i64 0]) ?_ rfl ?_
        · simp [results, Tryz.results41, go_sem, q0, q1]
        · show RetZ Z w _ _
          rw [E.out]
          exact ⟨_, _, rfl, row_set3 hr (hb.out _ hK) _ _, setS hK⟩
      · have hsg : (!na == nb) = false := by cases na <;> cases nb <;> simp_all
        have hab : na = nb := by simpa using hs
        have hm : Z = ((signB na (addD xs ys).1, (addD xs ys).1), (addD xs ys).2) := by
          rw [EZ.out, addZ, if_pos ⟨r1, r2⟩, ← hab, sval_sgn, sval_sgn, sgn_add, fitZ_sgn, show addD xs ys = _ from if_pos ⟨g1, g2⟩]
        clear r1 r2
        obtain ⟨ds, x, hd, hx⟩ : ∃ ds x, addD xs ys = (ds, x) ∧ (x = 0 ∨ (x = 3 ∧ ds = [])) := by
          rw [show addD xs ys = _ from if_pos ⟨g1, g2⟩, fitD]; split
          · exact ⟨_, _, rfl, .inl rfl⟩
          · exact ⟨_, _, rfl, .inr ⟨rfl, rfl⟩⟩
        rw [hd] at hm
        have HD := Lib.hid hd
        have HL := Lib.hid (show ds.length ≤ 1000000 by have := addD_len xs ys; rw [hd] at this; simp only at this; omega)
        clear hd g1 g2 hs hab
        rcases hx with rfl | ⟨rfl, rfl⟩
        · have E := Lib.hid (show Z = ((signB na ds, ds), 0) from hm)
          clear hm
          go_enter Tryz.func41, Tryz.ntmps41
          go_wp2_with fail
          rw [← HW.out]
          go_wp2_with (first
            | (go_at_call 65; (with_reducible refine (right_any (.slice A0 n0 c0) na xs _ (H.out.1.since (hS0.trans hK)) (by have := LL.out; omega)).mono ?_); rw [R1.out]; rintro e w1 ⟨rfl, h⟩; have hK := hK.trans h; obtain ⟨⟨k0, k1, k2, k3⟩, _⟩ := hold.out _ hK; obtain ⟨q0, q1, q2, q3⟩ := hk.out _ hK)
            | (go_at_call 65; (with_reducible refine (right_any (.slice A1 n1 c1) nb ys _ (H.out.2.since (hS0.trans hK)) (by have := LL.out; omega)).mono ?_); rw [R2.out]; rintro e w2 ⟨rfl, h⟩; have hK := hK.trans h; obtain ⟨⟨k0, k1, k2, k3⟩, _⟩ := hold.out _ hK; obtain ⟨q0, q1, q2, q3⟩ := hk.out _ hK)
            | (go_at_call 71; (with_reducible refine (add_at (.slice A0 n0 c0) (.slice A1 n1 c1) xs ys _ (H.out.1.since (hS0.trans hK)) (H.out.2.since (hS0.trans hK)) (by have := LL.out; omega) (by have := LL.out; omega) HD.out).mono ?_); rintro e w3 ⟨A2, c2, rfl, hr, h⟩; have hK := hK.trans h; obtain ⟨⟨k0, k1, k2, k3⟩, _⟩ := hold.out _ hK; obtain ⟨q0, q1, q2, q3⟩ := hk.out _ hK)
            | (go_at_call 66; (with_reducible refine (number_any (.slice A2 ds.length c2) na ds _ hr HL.out).mono ?_); rintro e w4 ⟨rfl, h⟩; have hr := hr.since h; have hK := hK.trans h; obtain ⟨⟨k0, k1, k2, k3⟩, _⟩ := hold.out _ hK; obtain ⟨q0, q1, q2, q3⟩ := hk.out _ hK))
          refine bodyPost_ret (v := .tuple #[sv (signB na ds) (.slice A2 ds.length c2), .int .i64 0]) ?_ rfl ?_
          · simp [results, Tryz.results41, go_sem, q0, q1]
          · show RetZ Z w _ _
            rw [E.out]
            exact ⟨_, _, rfl, row_set3 hr (hb.out _ hK) _ _, setS hK⟩
        · have E := Lib.hid (show Z = ((false, []), 3) from by rw [hm]; simp [signB])
          clear hm
          go_enter Tryz.func41, Tryz.ntmps41
          go_wp2_with fail
          rw [← HW.out]
          go_wp2_with (first
            | (go_at_call 65; (with_reducible refine (right_any (.slice A0 n0 c0) na xs _ (H.out.1.since (hS0.trans hK)) (by have := LL.out; omega)).mono ?_); rw [R1.out]; rintro e w1 ⟨rfl, h⟩; have hK := hK.trans h; obtain ⟨⟨k0, k1, k2, k3⟩, _⟩ := hold.out _ hK; obtain ⟨q0, q1, q2, q3⟩ := hk.out _ hK)
            | (go_at_call 65; (with_reducible refine (right_any (.slice A1 n1 c1) nb ys _ (H.out.2.since (hS0.trans hK)) (by have := LL.out; omega)).mono ?_); rw [R2.out]; rintro e w2 ⟨rfl, h⟩; have hK := hK.trans h; obtain ⟨⟨k0, k1, k2, k3⟩, _⟩ := hold.out _ hK; obtain ⟨q0, q1, q2, q3⟩ := hk.out _ hK)
            | (go_at_call 71; (with_reducible refine (add_at (.slice A0 n0 c0) (.slice A1 n1 c1) xs ys _ (H.out.1.since (hS0.trans hK)) (H.out.2.since (hS0.trans hK)) (by have := LL.out; omega) (by have := LL.out; omega) HD.out).mono ?_); rintro e w3 ⟨A2, c2, rfl, hr, h⟩; have hK := hK.trans h; obtain ⟨⟨k0, k1, k2, k3⟩, _⟩ := hold.out _ hK; obtain ⟨q0, q1, q2, q3⟩ := hk.out _ hK))
          refine bodyPost_ret (v := .tuple #[sv false (.slice none 0 0), .int .i64 3]) ?_ rfl ?_
          · simp [results, Tryz.results41, go_sem, q0, q1]
          · show RetZ Z w _ _
            rw [E.out]
            exact ⟨_, _, rfl, Row.nil _, setS hK⟩
    · have R1 := Lib.hid r1
      have R2 := Lib.hid (show srightB nb ys = false by simpa using r2)
      have E := Lib.hid (show Z = ((false, []), 2) by rw [EZ.out, addZ, if_neg (fun h => r2 h.2)])
      clear r1 r2
      go_enter Tryz.func41, Tryz.ntmps41
      go_wp2_with fail
      rw [← HW.out]
      go_wp2_with (first
        | (go_at_call 65; (with_reducible refine (right_any (.slice A0 n0 c0) na xs _ (H.out.1.since (hS0.trans hK)) (by have := LL.out; omega)).mono ?_); rw [R1.out]; rintro e w1 ⟨rfl, h⟩; have hK := hK.trans h; obtain ⟨⟨k0, k1, k2, k3⟩, _⟩ := hold.out _ hK; obtain ⟨q0, q1, q2, q3⟩ := hk.out _ hK)
        | (go_at_call 65; (with_reducible refine (right_any (.slice A1 n1 c1) nb ys _ (H.out.2.since (hS0.trans hK)) (by have := LL.out; omega)).mono ?_); rw [R2.out]; rintro e w2 ⟨rfl, h⟩; have hK := hK.trans h; obtain ⟨⟨k0, k1, k2, k3⟩, _⟩ := hold.out _ hK; obtain ⟨q0, q1, q2, q3⟩ := hk.out _ hK))
      refine bodyPost_ret (v := .tuple #[sv false (.slice none 0 0), .int .i64 2]) ?_ rfl ?_
      · simp [results, Tryz.results41, go_sem, q0, q1]
      · show RetZ Z w _ _
        rw [E.out]
        exact ⟨_, _, rfl, Row.nil _, setS hK⟩
  · have R1 := Lib.hid (show srightB na xs = false by simpa using r1)
    have E := Lib.hid (show Z = ((false, []), 2) by rw [EZ.out, addZ, if_neg (fun h => r1 h.1)])
    clear r1
    go_enter Tryz.func41, Tryz.ntmps41
    go_wp2_with fail
    rw [← HW.out]
    go_wp2_with (first
      | (go_at_call 65; (with_reducible refine (right_any (.slice A0 n0 c0) na xs _ (H.out.1.since (hS0.trans hK)) (by have := LL.out; omega)).mono ?_); rw [R1.out]; rintro e w1 ⟨rfl, h⟩; have hK := hK.trans h; obtain ⟨⟨k0, k1, k2, k3⟩, _⟩ := hold.out _ hK; obtain ⟨q0, q1, q2, q3⟩ := hk.out _ hK))
    refine bodyPost_ret (v := .tuple #[sv false (.slice none 0 0), .int .i64 2]) ?_ rfl ?_
    · simp [results, Tryz.results41, go_sem, q0, q1]
    · show RetZ Z w _ _
      rw [E.out]
      exact ⟨_, _, rfl, Row.nil _, setS hK⟩

end Go.Proofs.YtbbemgeinlehmaaGreatDoor.Sg03

namespace Go.Proofs.YtbbemgeinlehmaaGreatDoor.Sg03
open Go.RowKit
set_option linter.unusedVariables false
open Go.Proofs.YtbbemgeinlehmaaGreatDoor.Dig
open Go.Proofs.YtbbemgeinlehmaaGreatDoor.Ref03


theorem of_any (n : Int) (w : World) (hn : -9223372036854775808 ≤ n ∧ n ≤ 9223372036854775807) :
    Calls Tryz.prog 38 #[.int .i64 n] w (RetS (ngB n) (mag n) w) := by
  obtain ⟨h1, h2⟩ := hn
  obtain ⟨u, hu⟩ : ∃ u : Nat, u = n.natAbs := ⟨_, rfl⟩
  have HU := Lib.hid (show u < 18446744073709551616 by omega)
  have hl : (digs u).length ≤ 10 := Nat.le_trans (digs_len_le (k := 2) (by omega)) (by omega)
  have HL := Lib.hid hl
  have em : mag n = digs u := by unfold mag; rw [hu]
  have es := sign_mag n (ngB n) (fun _ => rfl)
  rw [em] at es
  have ES := Lib.hid es
  rw [em]
  by_cases h : n < 0
  · have eb : ngB n = true := by simp [ngB, h]
    rw [eb] at ES ⊢
    have ew : IntKind.u64.wrap n = 18446744073709551616 + n := by unfold IntKind.wrap; simp [IntKind.signed, IntKind.bits]; omega
    have ev : IntKind.u64.wrap (-(18446744073709551616 + n)) = (u : Int) := by unfold IntKind.wrap; simp [IntKind.signed, IntKind.bits]; omega
    clear hl em es hu
    go_enter Tryz.func38, Tryz.ntmps38
    go_wp2_with (first
      | (go_at_call 68; (with_reducible refine ((Nat02.of_any u _ HU.out).mono fun _ _ h => RetRow.sl h).mono ?_); rintro e w1 ⟨A2, c2, rfl, hr, hs⟩)
      | (go_at_call 66; (with_reducible refine (number_any (.slice A2 (digs u).length c2) true (digs u) _ hr (by have := HL.out; omega)).mono ?_); rw [ES.out]; rintro e w3 ⟨rfl, hs3⟩; have hr := hr.since hs3; have hK := hs.trans hs3; obtain ⟨c0, c1, f0, f1⟩ := keep2 hK))
    refine bodyPost_ret (v := sv true (.slice A2 (digs u).length c2)) ?_ rfl ?_
    · simp [results, Tryz.results38, go_sem, c0, c1]
    · exact ⟨_, _, rfl, row_set2 hr hK _ _, since_set2 hK _ _⟩
  · have eb : ngB n = false := by simp [ngB, h]
    rw [eb] at ES ⊢
    obtain rfl : n = (u : Int) := by omega
    clear hl em es hu
    go_enter Tryz.func38, Tryz.ntmps38
    go_wp2_with (first
      | (go_at_call 68; (with_reducible refine ((Nat02.of_any u _ HU.out).mono fun _ _ h => RetRow.sl h).mono ?_); rintro e w1 ⟨A2, c2, rfl, hr, hs⟩)
      | (go_at_call 66; (with_reducible refine (number_any (.slice A2 (digs u).length c2) false (digs u) _ hr (by have := HL.out; omega)).mono ?_); rw [ES.out]; rintro e w3 ⟨rfl, hs3⟩; have hr := hr.since hs3; have hK := hs.trans hs3; obtain ⟨c0, c1, f0, f1⟩ := keep2 hK))
    refine bodyPost_ret (v := sv false (.slice A2 (digs u).length c2)) ?_ rfl ?_
    · simp [results, Tryz.results38, go_sem, c0, c1]
    · exact ⟨_, _, rfl, row_set2 hr hK _ _, since_set2 hK _ _⟩

end Go.Proofs.YtbbemgeinlehmaaGreatDoor.Sg03

namespace Go.Proofs.YtbbemgeinlehmaaGreatDoor.Sg03
open Go.RowKit
set_option linter.unusedVariables false
open Go.Proofs.YtbbemgeinlehmaaGreatDoor.Dig
open Go.Proofs.YtbbemgeinlehmaaGreatDoor.Ref03


theorem uint_at (va : Value) (xs : List Nat) (w : World) (hx : Row w va xs) (lx : xs.length ≤ 10000) {n : Nat} {x : Int} (h : uintD xs = (n, x)) :
    Calls Tryz.prog 69 #[va] w fun e w' => e = .returned (.tuple #[.int .u64 (n : Int), .int .i64 x]) ∧ Since w w' := by
  have := Nat02.uint_any va xs w hx lx
  rw [h] at this
  exact this
theorem wrap_big {n : Nat} (h1 : 9223372036854775808 ≤ n) (h2 : n < 18446744073709551616) : IntKind.i64.wrap (n : Int) = (n : Int) - 18446744073709551616 := by
  unfold IntKind.wrap; simp [IntKind.signed, IntKind.bits]; omega
theorem wrap_small {n : Int} (h1 : -9223372036854775808 ≤ n) (h2 : n < 9223372036854775808) : IntKind.i64.wrap n = n := by
  unfold IntKind.wrap; simp [IntKind.signed, IntKind.bits]; omega
theorem wrap_min : IntKind.i64.wrap 9223372036854775808 = -9223372036854775808 := by decide
set_option maxRecDepth 100000 in
set_option maxHeartbeats 2000000 in
theorem small_any (A0 : Option Addr) (c0 : Nat) (na : Bool) (xs : List Nat) (w : World) (hx : Row w (.slice A0 xs.length c0) xs) (lx : xs.length ≤ 1000) :
    Calls Tryz.prog 40 #[sv na (.slice A0 xs.length c0)] w fun e w' => e = .returned (.tuple #[.int .i64 (smallZ na xs).1, .int .i64 (smallZ na xs).2]) ∧ Since w w' := by
  have DX := Lib.hid hx.dig
  obtain ⟨Z, hZ⟩ : ∃ Z, Z = smallZ na xs := ⟨_, rfl⟩
  rw [← hZ]
  have EZ := Lib.hid hZ
  clear hZ
  have H := Lib.hid hx
  have LL := Lib.hid lx
  clear hx lx
  obtain ⟨n0, hn0⟩ : ∃ n, n = xs.length := ⟨_, rfl⟩
  rw [← hn0] at H ⊢
  clear hn0
  obtain ⟨W0, hW0⟩ : ∃ W0, W0 = w.alloc (.cells #[.bool na, .slice A0 n0 c0] 29) := ⟨_, rfl⟩
  have HW := Lib.hid hW0
  have hS0 : Since w W0 := by rw [hW0]; exact (Since.refl w).alloc _
  have hold : Hid (∀ W : World, Since W0 W → (W.cell? ⟨w.heap.size, 0, none⟩ = some (.bool na) ∧ W.cell? ⟨w.heap.size, 1, none⟩ = some (.slice A0 n0 c0)) ∧ Since w W) := fun W h => ⟨hold1 (hW0 ▸ h), hS0.trans h⟩
  clear hW0
  have hK := Since.refl W0
  by_cases r1 : srightB na xs = true
  · have R1 := Lib.hid r1
    have g1 := sright_right r1
    have hpos : na = true → 0 < num xs := fun h => sright_pos (h ▸ r1)
    have ez : Z = if fitsI (sgn na (num xs)) then (sgn na (num xs), 0) else (0, 4) := by rw [EZ.out, smallZ, if_pos r1]; rfl
    by_cases hl : 2 < xs.length
    · have HU := Lib.hid (show uintD xs = (0, 4) by rw [show uintD xs = _ from if_pos g1, if_pos hl])
      have hb := num_long DX.out (right_norm g1).2 hl
      have E := Lib.hid (show Z = (0, 4) by rw [ez, if_neg]; unfold fitsI sgn; cases na <;> simp <;> omega)
      clear ez hb g1 hl r1 hpos
      go_enter Tryz.func40, Tryz.ntmps40
      go_wp2_with fail
      rw [← HW.out]
      go_wp2_with (first
        | (go_at_call 65; (with_reducible refine (right_any (.slice A0 n0 c0) na xs _ (H.out.since (hS0.trans hK)) (by have := LL.out; omega)).mono ?_); rw [R1.out]; rintro e w1 ⟨rfl, h⟩; have hK := hK.trans h; obtain ⟨⟨k0, k1⟩, _⟩ := hold.out _ hK)
        | (go_at_call 69; (with_reducible refine (uint_at (.slice A0 n0 c0) xs _ (H.out.since (hS0.trans hK)) (by have := LL.out; omega) HU.out).mono ?_); rintro e w3 ⟨rfl, h⟩; have hK := hK.trans h; obtain ⟨⟨k0, k1⟩, _⟩ := hold.out _ hK))
      go_ret2
      exact ⟨by rw [E.out]; rfl, hS0.trans hK⟩
    · have HU := Lib.hid (show uintD xs = (num xs, 0) by rw [show uintD xs = _ from if_pos g1, if_neg hl])
      have hb : num xs < 18446744073709551616 := by
        have h := num_lt DX.out
        have h2 := Nat.pow_le_pow_right (n := 4294967296) (by omega) (show xs.length ≤ 2 by omega)
        omega
      obtain ⟨n, hn⟩ : ∃ n, n = num xs := ⟨_, rfl⟩
      rw [← hn] at HU hb ez hpos
      clear g1 hl r1 hn
      cases na
      · by_cases hf : n < 9223372036854775808
        · have E := Lib.hid (show Z = ((n : Int), 0) by rw [ez, if_pos] <;> simp [sgn, fitsI] <;> omega)
          have e1 := wrap_small (n := (n : Int)) (by omega) (by omega)
          have e2 : decide ((n : Int) < 0) = false := by rw [decide_eq_false_iff_not]; omega
          clear ez hpos
          go_enter Tryz.func40, Tryz.ntmps40
          go_wp2_with fail
          rw [← HW.out]
          go_wp2_with (first
            | (go_at_call 65; (with_reducible refine (right_any (.slice A0 n0 c0) false xs _ (H.out.since (hS0.trans hK)) (by have := LL.out; omega)).mono ?_); rw [R1.out]; rintro e w1 ⟨rfl, h⟩; have hK := hK.trans h; obtain ⟨⟨k0, k1⟩, _⟩ := hold.out _ hK)
            | (go_at_call 69; (with_reducible refine (uint_at (.slice A0 n0 c0) xs _ (H.out.since (hS0.trans hK)) (by have := LL.out; omega) HU.out).mono ?_); rintro e w3 ⟨rfl, h⟩; have hK := hK.trans h; obtain ⟨⟨k0, k1⟩, _⟩ := hold.out _ hK))
          go_ret2
          exact ⟨by rw [E.out]; rfl, hS0.trans hK⟩
        · have E := Lib.hid (show Z = (0, 4) by rw [ez, if_neg]; simp [sgn, fitsI]; omega)
          have e1 := wrap_big (n := n) (by omega) (by omega)
          have e2 : decide ((n : Int) - 18446744073709551616 < 0) = true := by rw [decide_eq_true_iff]; omega
          clear ez hpos
          go_enter Tryz.func40, Tryz.ntmps40
          go_wp2_with fail
          rw [← HW.out]
          go_wp2_with (first
            | (go_at_call 65; (with_reducible refine (right_any (.slice A0 n0 c0) false xs _ (H.out.since (hS0.trans hK)) (by have := LL.out; omega)).mono ?_); rw [R1.out]; rintro e w1 ⟨rfl, h⟩; have hK := hK.trans h; obtain ⟨⟨k0, k1⟩, _⟩ := hold.out _ hK)
            | (go_at_call 69; (with_reducible refine (uint_at (.slice A0 n0 c0) xs _ (H.out.since (hS0.trans hK)) (by have := LL.out; omega) HU.out).mono ?_); rintro e w3 ⟨rfl, h⟩; have hK := hK.trans h; obtain ⟨⟨k0, k1⟩, _⟩ := hold.out _ hK))
          go_ret2
          exact ⟨by rw [E.out]; rfl, hS0.trans hK⟩
      · have hpos := hpos rfl
        by_cases hf : n < 9223372036854775808
        · have E := Lib.hid (show Z = (-(n : Int), 0) by rw [ez, if_pos] <;> simp [sgn, fitsI] <;> omega)
          have e1 := wrap_small (n := (n : Int)) (by omega) (by omega)
          have e2 : decide (-(n : Int) < 0) = true := by rw [decide_eq_true_iff]; omega
          clear ez
          go_enter Tryz.func40, Tryz.ntmps40
          go_wp2_with fail
          rw [← HW.out]
          go_wp2_with (first
            | (go_at_call 65; (with_reducible refine (right_any (.slice A0 n0 c0) true xs _ (H.out.since (hS0.trans hK)) (by have := LL.out; omega)).mono ?_); rw [R1.out]; rintro e w1 ⟨rfl, h⟩; have hK := hK.trans h; obtain ⟨⟨k0, k1⟩, _⟩ := hold.out _ hK)
            | (go_at_call 69; (with_reducible refine (uint_at (.slice A0 n0 c0) xs _ (H.out.since (hS0.trans hK)) (by have := LL.out; omega) HU.out).mono ?_); rintro e w3 ⟨rfl, h⟩; have hK := hK.trans h; obtain ⟨⟨k0, k1⟩, _⟩ := hold.out _ hK))
          go_ret2
          exact ⟨by rw [E.out]; rfl, hS0.trans hK⟩
        · by_cases he : n = 9223372036854775808
          · subst he
            have E := Lib.hid (show Z = (-9223372036854775808, 0) by rw [ez, if_pos] <;> simp [sgn, fitsI])
            have e0 := wrap_min
            have e1 : IntKind.i64.wrap ((9223372036854775808 : Nat) : Int) = -9223372036854775808 := wrap_min
            have e3 : wrap64 9223372036854775808 = -9223372036854775808 := by unfold wrap64; decide
            clear ez hpos hf hb
            go_enter Tryz.func40, Tryz.ntmps40
            go_wp2_with fail
            rw [← HW.out]
            go_wp2_with (first
              | (go_at_call 65; (with_reducible refine (right_any (.slice A0 n0 c0) true xs _ (H.out.since (hS0.trans hK)) (by have := LL.out; omega)).mono ?_); rw [R1.out]; rintro e w1 ⟨rfl, h⟩; have hK := hK.trans h; obtain ⟨⟨k0, k1⟩, _⟩ := hold.out _ hK)
              | (go_at_call 69; (with_reducible refine (uint_at (.slice A0 n0 c0) xs _ (H.out.since (hS0.trans hK)) (by have := LL.out; omega) HU.out).mono ?_); rintro e w3 ⟨rfl, h⟩; have hK := hK.trans h; obtain ⟨⟨k0, k1⟩, _⟩ := hold.out _ hK))
            go_ret2
            exact ⟨by rw [E.out]; rfl, hS0.trans hK⟩
          · have E := Lib.hid (show Z = (0, 4) by rw [ez, if_neg]; simp [sgn, fitsI]; omega)
            have e1 := wrap_big (n := n) (by omega) (by omega)
            have e2 : decide (18446744073709551616 < (n : Int)) = false := by rw [decide_eq_false_iff_not]; omega
            clear ez
            go_enter Tryz.func40, Tryz.ntmps40
            go_wp2_with fail
            rw [← HW.out]
            go_wp2_with (first
              | (go_at_call 65; (with_reducible refine (right_any (.slice A0 n0 c0) true xs _ (H.out.since (hS0.trans hK)) (by have := LL.out; omega)).mono ?_); rw [R1.out]; rintro e w1 ⟨rfl, h⟩; have hK := hK.trans h; obtain ⟨⟨k0, k1⟩, _⟩ := hold.out _ hK)
              | (go_at_call 69; (with_reducible refine (uint_at (.slice A0 n0 c0) xs _ (H.out.since (hS0.trans hK)) (by have := LL.out; omega) HU.out).mono ?_); rintro e w3 ⟨rfl, h⟩; have hK := hK.trans h; obtain ⟨⟨k0, k1⟩, _⟩ := hold.out _ hK))
            go_ret2
            exact ⟨by rw [E.out]; rfl, hS0.trans hK⟩
  · have R1 := Lib.hid (show srightB na xs = false by simpa using r1)
    have E := Lib.hid (show Z = (0, 2) by rw [EZ.out, smallZ, if_neg r1])
    clear r1
    go_enter Tryz.func40, Tryz.ntmps40
    go_wp2_with fail
    rw [← HW.out]
    go_wp2_with (first
      | (go_at_call 65; (with_reducible refine (right_any (.slice A0 n0 c0) na xs _ (H.out.since (hS0.trans hK)) (by have := LL.out; omega)).mono ?_); rw [R1.out]; rintro e w1 ⟨rfl, h⟩; have hK := hK.trans h; obtain ⟨⟨k0, k1⟩, _⟩ := hold.out _ hK))
    go_ret2
    exact ⟨by rw [E.out]; rfl, hS0.trans hK⟩

end Go.Proofs.YtbbemgeinlehmaaGreatDoor.Sg03
