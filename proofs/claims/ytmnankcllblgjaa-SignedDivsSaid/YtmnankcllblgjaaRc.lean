/- What the document's own Times gives back. What the document's own Sum gives back. What the document's own fit, Add, Mul of layer 3 give back. What the document's own Add and Mul of layer 3 give back. -/
import Derived.Test.YtmnankcllblgjaaRb
import Derived.Test.YtmnankcllblgjaaRa
import Derived.Deep.RegionHeld3
namespace Go.Proofs.Ytmnankcllblgjaa.Ref03
open Go.RowKit
set_option linter.unusedVariables false
open Go.Proofs.Ytmnankcllblgjaa.Dig

set_option maxRecDepth 100000 in
set_option maxHeartbeats 1000000 in
theorem times_any (A0 A1 : Option Addr) (c0 c1 : Nat) (na nb : Bool) (xs ys : List Nat) (w : World) (hx : Row w (.slice A0 xs.length c0) xs) (hy : Row w (.slice A1 ys.length c1) ys) (lx : xs.length ≤ 1000) (ly : ys.length ≤ 1000) :
    Calls Try.prog 54 #[sv na (.slice A0 xs.length c0), sv nb (.slice A1 ys.length c1)] w (RetS (signB (na != nb) (digs (num xs * num ys))) (digs (num xs * num ys)) w) := by
  have H := Lib.hid (And.intro hx hy)
  have HL := Lib.hid (show (digs (num xs * num ys)).length ≤ 1000000 by have := Ref02.prod_len hx.dig hy.dig; omega)
  have LL := Lib.hid (And.intro lx ly)
  clear hx hy lx ly
  obtain ⟨n0, hn0⟩ : ∃ n, n = xs.length := ⟨_, rfl⟩
  obtain ⟨n1, hn1⟩ : ∃ n, n = ys.length := ⟨_, rfl⟩
  rw [← hn0] at H ⊢
  rw [← hn1] at H ⊢
  clear hn0 hn1
  obtain ⟨W0, hW0⟩ : ∃ W0, W0 = ((w.alloc (.cells #[.bool na, .slice A0 n0 c0] 24)).alloc (.cells #[.bool nb, .slice A1 n1 c1] 24)).alloc (.cells #[.bool false, .slice none 0 0] 24) := ⟨_, rfl⟩
  have HW := Lib.hid hW0
  have hold : Hid (∀ W : World, Since W0 W → (W.cell? ⟨w.heap.size, 0, none⟩ = some (.bool na) ∧ W.cell? ⟨w.heap.size, 1, none⟩ = some (.slice A0 n0 c0) ∧ W.cell? ⟨w.heap.size + 1, 0, none⟩ = some (.bool nb) ∧ W.cell? ⟨w.heap.size + 1, 1, none⟩ = some (.slice A1 n1 c1)) ∧ Since w W) := fun W h => ⟨hold2 (hW0 ▸ h), by rw [hW0] at h; exact ((((Since.refl w).alloc _).alloc _).alloc _).trans h⟩
  have hk3 : Hid (∀ W : World, Since W0 W → W.cell? ⟨w.heap.size + 1 + 1, 0, none⟩ = some (.bool false) ∧ W.cell? ⟨w.heap.size + 1 + 1, 1, none⟩ = some (.slice none 0 0) ∧ W.frozen? ⟨w.heap.size + 1 + 1, 0, none⟩ = false ∧ W.frozen? ⟨w.heap.size + 1 + 1, 1, none⟩ = false) := fun W h => keep3 (hW0 ▸ h)
  have hb3 : Hid (∀ W : World, Since W0 W → Since (((w.alloc (.cells #[.bool na, .slice A0 n0 c0] 24)).alloc (.cells #[.bool nb, .slice A1 n1 c1] 24)).alloc (.cells #[.bool false, .slice none 0 0] 24)) W) := fun W h => hW0 ▸ h
  have since_set3 : ∀ {W : World} {u0 u1 : Value}, Since W0 W → Since w ((W.setCell ⟨w.heap.size + 1 + 1, 0, none⟩ u0).setCell ⟨w.heap.size + 1 + 1, 1, none⟩ u1) := fun h => by rw [hW0] at h; exact ((((((Since.refl w).alloc _).alloc _).alloc _).trans h).set (by show w.heap.size ≤ w.heap.size + 1 + 1; omega) _).set (by show w.heap.size ≤ w.heap.size + 1 + 1; omega) _
  have hsg : (!na == nb) = (na != nb) := by cases na <;> cases nb <;> rfl
  have hS0 : Since w W0 := by rw [hW0]; exact (((Since.refl w).alloc _).alloc _).alloc _
  clear hW0
  go_enter Try.func54, Try.ntmps54
  go_wp2
  rw [← HW.out]
  have hh : Hid (∀ W : World, (W.cell? ⟨w.heap.size, 0, none⟩ = some (.bool na) ∧ W.cell? ⟨w.heap.size, 1, none⟩ = some (.slice A0 n0 c0) ∧ W.cell? ⟨w.heap.size + 1, 0, none⟩ = some (.bool nb) ∧ W.cell? ⟨w.heap.size + 1, 1, none⟩ = some (.slice A1 n1 c1)) ∧ Since w W → Since w W) := fun W h => h.2
  go_region_held3 (fun W => (W.cell? ⟨w.heap.size, 0, none⟩ = some (.bool na) ∧ W.cell? ⟨w.heap.size, 1, none⟩ = some (.slice A0 n0 c0) ∧ W.cell? ⟨w.heap.size + 1, 0, none⟩ = some (.bool nb) ∧ W.cell? ⟨w.heap.size + 1, 1, none⟩ = some (.slice A1 n1 c1)) ∧ Since w W)
    (first | exact hold.out _ (Since.refl _) | exact hold.out _ (Since.drew (Since.refl _)) | exact hold.out _ ‹Since W0 _› | exact ⟨by go_simp, since_set3 ‹Since W0 _›⟩)
    (first
      | (go_at_call 73; (with_reducible refine ((Ref02.product_any (.slice A0 n0 c0) (.slice A1 n1 c1) xs ys _ (H.out.1.since (hh.out _ (by assumption))) (H.out.2.since (hh.out _ (by assumption))) (by have := LL.out; omega) (by have := LL.out; omega)).mono fun _ _ h => RetRow.sl h).mono ?_); rintro e w1 ⟨A2, c2, rfl, hr1, hs1⟩; have hK1 := Since.trans (Since.drew (Since.refl W0)) hs1)
      | (go_at_call 46; (with_reducible refine (made_any (.slice A2 (digs (num xs * num ys)).length c2) _ (digs (num xs * num ys)) _ hr1 HL.out).mono ?_); rintro e w2 ⟨rfl, hs2⟩; have hK2 := Since.trans hK1 hs2; have hr2 := hr1.since hs2; obtain ⟨q0, q1, q2, q3⟩ := hk3.out _ hK2))
  go_wp2
  refine bodyPost_ret (v := sv (signB (na != nb) (digs (num xs * num ys))) (.slice A2 (digs (num xs * num ys)).length c2)) ?_ rfl ?_
  · simp [results, Try.results54, go_sem, q0, q1]
  · exact ⟨_, _, rfl, row_set3 hr2 (hb3.out _ hK2) _ _, since_set3 hK2⟩
end Go.Proofs.Ytmnankcllblgjaa.Ref03

namespace Go.Proofs.Ytmnankcllblgjaa.Ref03
open Go.RowKit
set_option linter.unusedVariables false
open Go.Proofs.Ytmnankcllblgjaa.Dig

set_option maxRecDepth 100000 in
set_option maxHeartbeats 1000000 in
theorem sum_eq (A0 A1 : Option Addr) (c0 c1 : Nat) (na nb : Bool) (xs ys : List Nat) (w : World) (hx : Row w (.slice A0 xs.length c0) xs) (hy : Row w (.slice A1 ys.length c1) ys) (lx : xs.length ≤ 1000) (ly : ys.length ≤ 1000) (hs : (na == nb) = true) :
    Calls Try.prog 52 #[sv na (.slice A0 xs.length c0), sv nb (.slice A1 ys.length c1)] w (RetS (signB na (digs (num xs + num ys))) (digs (num xs + num ys)) w) := by
  have H := Lib.hid (And.intro hx hy)
  have HL := Lib.hid (show (digs (num xs + num ys)).length ≤ 1000000 by have h1 := num_lt hx.dig; have h2 := num_lt hy.dig; obtain ⟨k, hk⟩ : ∃ k, k = 1000 := ⟨_, rfl⟩; rw [← hk] at lx ly; have h3 := Nat.pow_le_pow_right (n := 4294967296) (by omega) lx; have h4 := Nat.pow_le_pow_right (n := 4294967296) (by omega) ly; exact Nat.le_trans (digs_len_le (k := k + 1) (sum_lt (Nat.lt_of_lt_of_le h1 h3) (Nat.lt_of_lt_of_le h2 h4))) (by omega))
  have LL := Lib.hid (And.intro lx ly)
  have HE := Lib.hid (And.intro lx ly)
  clear hx hy lx ly
  obtain ⟨n0, hn0⟩ : ∃ n, n = xs.length := ⟨_, rfl⟩
  obtain ⟨n1, hn1⟩ : ∃ n, n = ys.length := ⟨_, rfl⟩
  rw [← hn0] at H ⊢
  rw [← hn1] at H ⊢
  clear hn0 hn1
  obtain ⟨W0, hW0⟩ : ∃ W0, W0 = ((w.alloc (.cells #[.bool na, .slice A0 n0 c0] 24)).alloc (.cells #[.bool nb, .slice A1 n1 c1] 24)).alloc (.cells #[.bool false, .slice none 0 0] 24) := ⟨_, rfl⟩
  have HW := Lib.hid hW0
  have hold : Hid (∀ W : World, Since W0 W → (W.cell? ⟨w.heap.size, 0, none⟩ = some (.bool na) ∧ W.cell? ⟨w.heap.size, 1, none⟩ = some (.slice A0 n0 c0) ∧ W.cell? ⟨w.heap.size + 1, 0, none⟩ = some (.bool nb) ∧ W.cell? ⟨w.heap.size + 1, 1, none⟩ = some (.slice A1 n1 c1)) ∧ Since w W) := fun W h => ⟨hold2 (hW0 ▸ h), by rw [hW0] at h; exact ((((Since.refl w).alloc _).alloc _).alloc _).trans h⟩
  have hk3 : Hid (∀ W : World, Since W0 W → W.cell? ⟨w.heap.size + 1 + 1, 0, none⟩ = some (.bool false) ∧ W.cell? ⟨w.heap.size + 1 + 1, 1, none⟩ = some (.slice none 0 0) ∧ W.frozen? ⟨w.heap.size + 1 + 1, 0, none⟩ = false ∧ W.frozen? ⟨w.heap.size + 1 + 1, 1, none⟩ = false) := fun W h => keep3 (hW0 ▸ h)
  have hb3 : Hid (∀ W : World, Since W0 W → Since (((w.alloc (.cells #[.bool na, .slice A0 n0 c0] 24)).alloc (.cells #[.bool nb, .slice A1 n1 c1] 24)).alloc (.cells #[.bool false, .slice none 0 0] 24)) W) := fun W h => hW0 ▸ h
  have since_set3 : ∀ {W : World} {u0 u1 : Value}, Since W0 W → Since w ((W.setCell ⟨w.heap.size + 1 + 1, 0, none⟩ u0).setCell ⟨w.heap.size + 1 + 1, 1, none⟩ u1) := fun h => by rw [hW0] at h; exact ((((((Since.refl w).alloc _).alloc _).alloc _).trans h).set (by show w.heap.size ≤ w.heap.size + 1 + 1; omega) _).set (by show w.heap.size ≤ w.heap.size + 1 + 1; omega) _
  have hS0 : Since w W0 := by rw [hW0]; exact (((Since.refl w).alloc _).alloc _).alloc _
  clear hW0
  go_enter Try.func52, Try.ntmps52
  go_wp2
  rw [← HW.out]
  have hh : Hid (∀ W : World, (W.cell? ⟨w.heap.size, 0, none⟩ = some (.bool na) ∧ W.cell? ⟨w.heap.size, 1, none⟩ = some (.slice A0 n0 c0) ∧ W.cell? ⟨w.heap.size + 1, 0, none⟩ = some (.bool nb) ∧ W.cell? ⟨w.heap.size + 1, 1, none⟩ = some (.slice A1 n1 c1)) ∧ Since w W → Since w W) := fun W h => h.2
  go_region_held3 (fun W => (W.cell? ⟨w.heap.size, 0, none⟩ = some (.bool na) ∧ W.cell? ⟨w.heap.size, 1, none⟩ = some (.slice A0 n0 c0) ∧ W.cell? ⟨w.heap.size + 1, 0, none⟩ = some (.bool nb) ∧ W.cell? ⟨w.heap.size + 1, 1, none⟩ = some (.slice A1 n1 c1)) ∧ Since w W)
    (first | exact hold.out _ (Since.refl _) | exact hold.out _ (Since.drew (Since.refl _)) | exact hold.out _ (Since.drew ‹Since W0 _›) | exact hold.out _ ‹Since W0 _› | exact ⟨by go_simp, since_set3 ‹Since W0 _›⟩)
    (first
      | (go_at_call 47; go_loud ((with_reducible refine ((Ref02.plus_any (.slice A0 n0 c0) (.slice A1 n1 c1) xs ys _ (H.out.1.since (hh.out _ (by assumption))) (H.out.2.since (hh.out _ (by assumption))) (by have := LL.out; omega) (by have := LL.out; omega)).mono fun _ _ h => RetRow.sl h).mono ?_)); rintro e x1 ⟨A2, c2, rfl, hr1, hs1⟩; have hK1 := Since.trans (Since.drew (Since.refl W0)) hs1)
      | (go_at_call 46; (with_reducible refine (made_any (.slice A2 (digs (num xs + num ys)).length c2) _ (digs (num xs + num ys)) _ hr1 HL.out).mono ?_); rintro e x2 ⟨rfl, hs2⟩; have hK2 := Since.trans hK1 hs2; have hr2 := hr1.since hs2; obtain ⟨q0, q1, q2, q3⟩ := hk3.out _ hK2))
  go_wp2
  refine bodyPost_ret (v := sv (signB na (digs (num xs + num ys))) (.slice A2 (digs (num xs + num ys)).length c2)) ?_ rfl ?_
  · simp [results, Try.results52, go_sem, q0, q1]
  · exact ⟨_, _, rfl, row_set3 hr2 (hb3.out _ hK2) _ _, since_set3 hK2⟩
set_option maxRecDepth 100000 in
set_option maxHeartbeats 1000000 in
theorem sum_lt_ (A0 A1 : Option Addr) (c0 c1 : Nat) (na nb : Bool) (xs ys : List Nat) (w : World) (hx : Row w (.slice A0 xs.length c0) xs) (hy : Row w (.slice A1 ys.length c1) ys) (lx : xs.length ≤ 1000) (ly : ys.length ≤ 1000) (hs : (na == nb) = false) (hc : lessB xs ys = true) (hl2 : xs.length ≤ ys.length) (hle : num xs ≤ num ys) :
    Calls Try.prog 52 #[sv na (.slice A0 xs.length c0), sv nb (.slice A1 ys.length c1)] w (RetS (signB nb (digs (num ys - num xs))) (digs (num ys - num xs)) w) := by
  have H := Lib.hid (And.intro hx hy)
  have HL := Lib.hid (show (digs (num ys - num xs)).length ≤ 1000000 by exact Nat.le_trans (digs_len_mono (Nat.sub_le _ _)) (Nat.le_trans (digs_len_num hy.dig) (by omega)))
  have LL := Lib.hid (And.intro lx ly)
  have HE := Lib.hid (And.intro lx ly)
  have HC := Lib.hid hc
  have HQ := Lib.hid hl2
  have HLE := Lib.hid hle
  clear hx hy lx ly hc hl2 hle
  obtain ⟨n0, hn0⟩ : ∃ n, n = xs.length := ⟨_, rfl⟩
  obtain ⟨n1, hn1⟩ : ∃ n, n = ys.length := ⟨_, rfl⟩
  rw [← hn0] at H ⊢
  rw [← hn1] at H ⊢
  clear hn0 hn1
  obtain ⟨W0, hW0⟩ : ∃ W0, W0 = ((w.alloc (.cells #[.bool na, .slice A0 n0 c0] 24)).alloc (.cells #[.bool nb, .slice A1 n1 c1] 24)).alloc (.cells #[.bool false, .slice none 0 0] 24) := ⟨_, rfl⟩
  have HW := Lib.hid hW0
  have hold : Hid (∀ W : World, Since W0 W → (W.cell? ⟨w.heap.size, 0, none⟩ = some (.bool na) ∧ W.cell? ⟨w.heap.size, 1, none⟩ = some (.slice A0 n0 c0) ∧ W.cell? ⟨w.heap.size + 1, 0, none⟩ = some (.bool nb) ∧ W.cell? ⟨w.heap.size + 1, 1, none⟩ = some (.slice A1 n1 c1)) ∧ Since w W) := fun W h => ⟨hold2 (hW0 ▸ h), by rw [hW0] at h; exact ((((Since.refl w).alloc _).alloc _).alloc _).trans h⟩
  have hk3 : Hid (∀ W : World, Since W0 W → W.cell? ⟨w.heap.size + 1 + 1, 0, none⟩ = some (.bool false) ∧ W.cell? ⟨w.heap.size + 1 + 1, 1, none⟩ = some (.slice none 0 0) ∧ W.frozen? ⟨w.heap.size + 1 + 1, 0, none⟩ = false ∧ W.frozen? ⟨w.heap.size + 1 + 1, 1, none⟩ = false) := fun W h => keep3 (hW0 ▸ h)
  have hb3 : Hid (∀ W : World, Since W0 W → Since (((w.alloc (.cells #[.bool na, .slice A0 n0 c0] 24)).alloc (.cells #[.bool nb, .slice A1 n1 c1] 24)).alloc (.cells #[.bool false, .slice none 0 0] 24)) W) := fun W h => hW0 ▸ h
  have since_set3 : ∀ {W : World} {u0 u1 : Value}, Since W0 W → Since w ((W.setCell ⟨w.heap.size + 1 + 1, 0, none⟩ u0).setCell ⟨w.heap.size + 1 + 1, 1, none⟩ u1) := fun h => by rw [hW0] at h; exact ((((((Since.refl w).alloc _).alloc _).alloc _).trans h).set (by show w.heap.size ≤ w.heap.size + 1 + 1; omega) _).set (by show w.heap.size ≤ w.heap.size + 1 + 1; omega) _
  have hS0 : Since w W0 := by rw [hW0]; exact (((Since.refl w).alloc _).alloc _).alloc _
  clear hW0
  have hR0 := Lib.hid (H.out.1.since hS0)
  have hR1 := Lib.hid (H.out.2.since hS0)
  go_enter Try.func52, Try.ntmps52
  go_wp2_with fail
  rw [← HW.out]
  go_wp2_with (go_at_call 63; (with_reducible refine (Ref02.less_any (.slice A0 n0 c0) (.slice A1 n1 c1) xs ys _ hR0.out hR1.out (by have := LL.out; omega) (by have := LL.out; omega)).mono ?_); rw [HC.out]; rintro e w1 ⟨rfl, hw1⟩; obtain ⟨⟨k0, k1, k2, k3⟩, _⟩ := hold.out _ hw1)
  have hh : Hid (∀ W : World, (W.cell? ⟨w.heap.size, 0, none⟩ = some (.bool na) ∧ W.cell? ⟨w.heap.size, 1, none⟩ = some (.slice A0 n0 c0) ∧ W.cell? ⟨w.heap.size + 1, 0, none⟩ = some (.bool nb) ∧ W.cell? ⟨w.heap.size + 1, 1, none⟩ = some (.slice A1 n1 c1)) ∧ Since w W → Since w W) := fun W h => h.2
  go_region_held3 (fun W => (W.cell? ⟨w.heap.size, 0, none⟩ = some (.bool na) ∧ W.cell? ⟨w.heap.size, 1, none⟩ = some (.slice A0 n0 c0) ∧ W.cell? ⟨w.heap.size + 1, 0, none⟩ = some (.bool nb) ∧ W.cell? ⟨w.heap.size + 1, 1, none⟩ = some (.slice A1 n1 c1)) ∧ Since w W)
    (first | exact hold.out _ (Since.refl _) | exact hold.out _ (Since.drew (Since.refl _)) | exact hold.out _ (Since.drew ‹Since W0 _›) | exact hold.out _ ‹Since W0 _› | exact ⟨by go_simp, since_set3 ‹Since W0 _›⟩)
    (first
      | (go_at_call 59; go_loud ((with_reducible refine ((Ref02.minus_any (.slice A1 n1 c1) (.slice A0 n0 c0) ys xs _ (H.out.2.since (hh.out _ (by assumption))) (H.out.1.since (hh.out _ (by assumption))) (by have := LL.out; omega) HQ.out HLE.out).mono fun _ _ h => RetRow.sl h).mono ?_)); rintro e x1 ⟨A2, c2, rfl, hr1, hs1⟩; have hK1 := Since.trans (Since.drew hw1) hs1)
      | (go_at_call 46; (with_reducible refine (made_any (.slice A2 (digs (num ys - num xs)).length c2) _ (digs (num ys - num xs)) _ hr1 HL.out).mono ?_); rintro e x2 ⟨rfl, hs2⟩; have hK2 := Since.trans hK1 hs2; have hr2 := hr1.since hs2; obtain ⟨q0, q1, q2, q3⟩ := hk3.out _ hK2))
  go_wp2
  refine bodyPost_ret (v := sv (signB nb (digs (num ys - num xs))) (.slice A2 (digs (num ys - num xs)).length c2)) ?_ rfl ?_
  · simp [results, Try.results52, go_sem, q0, q1]
  · exact ⟨_, _, rfl, row_set3 hr2 (hb3.out _ hK2) _ _, since_set3 hK2⟩
set_option maxRecDepth 100000 in
set_option maxHeartbeats 1000000 in
theorem sum_ge_ (A0 A1 : Option Addr) (c0 c1 : Nat) (na nb : Bool) (xs ys : List Nat) (w : World) (hx : Row w (.slice A0 xs.length c0) xs) (hy : Row w (.slice A1 ys.length c1) ys) (lx : xs.length ≤ 1000) (ly : ys.length ≤ 1000) (hs : (na == nb) = false) (hc : lessB xs ys = false) (hl2 : ys.length ≤ xs.length) (hle : num ys ≤ num xs) :
    Calls Try.prog 52 #[sv na (.slice A0 xs.length c0), sv nb (.slice A1 ys.length c1)] w (RetS (signB na (digs (num xs - num ys))) (digs (num xs - num ys)) w) := by
  have H := Lib.hid (And.intro hx hy)
  have HL := Lib.hid (show (digs (num xs - num ys)).length ≤ 1000000 by exact Nat.le_trans (digs_len_mono (Nat.sub_le _ _)) (Nat.le_trans (digs_len_num hx.dig) (by omega)))
  have LL := Lib.hid (And.intro lx ly)
  have HE := Lib.hid (And.intro lx ly)
  have HC := Lib.hid hc
  have HQ := Lib.hid hl2
  have HLE := Lib.hid hle
  clear hx hy lx ly hc hl2 hle
  obtain ⟨n0, hn0⟩ : ∃ n, n = xs.length := ⟨_, rfl⟩
  obtain ⟨n1, hn1⟩ : ∃ n, n = ys.length := ⟨_, rfl⟩
  rw [← hn0] at H ⊢
  rw [← hn1] at H ⊢
  clear hn0 hn1
  obtain ⟨W0, hW0⟩ : ∃ W0, W0 = ((w.alloc (.cells #[.bool na, .slice A0 n0 c0] 24)).alloc (.cells #[.bool nb, .slice A1 n1 c1] 24)).alloc (.cells #[.bool false, .slice none 0 0] 24) := ⟨_, rfl⟩
  have HW := Lib.hid hW0
  have hold : Hid (∀ W : World, Since W0 W → (W.cell? ⟨w.heap.size, 0, none⟩ = some (.bool na) ∧ W.cell? ⟨w.heap.size, 1, none⟩ = some (.slice A0 n0 c0) ∧ W.cell? ⟨w.heap.size + 1, 0, none⟩ = some (.bool nb) ∧ W.cell? ⟨w.heap.size + 1, 1, none⟩ = some (.slice A1 n1 c1)) ∧ Since w W) := fun W h => ⟨hold2 (hW0 ▸ h), by rw [hW0] at h; exact ((((Since.refl w).alloc _).alloc _).alloc _).trans h⟩
  have hk3 : Hid (∀ W : World, Since W0 W → W.cell? ⟨w.heap.size + 1 + 1, 0, none⟩ = some (.bool false) ∧ W.cell? ⟨w.heap.size + 1 + 1, 1, none⟩ = some (.slice none 0 0) ∧ W.frozen? ⟨w.heap.size + 1 + 1, 0, none⟩ = false ∧ W.frozen? ⟨w.heap.size + 1 + 1, 1, none⟩ = false) := fun W h => keep3 (hW0 ▸ h)
  have hb3 : Hid (∀ W : World, Since W0 W → Since (((w.alloc (.cells #[.bool na, .slice A0 n0 c0] 24)).alloc (.cells #[.bool nb, .slice A1 n1 c1] 24)).alloc (.cells #[.bool false, .slice none 0 0] 24)) W) := fun W h => hW0 ▸ h
  have since_set3 : ∀ {W : World} {u0 u1 : Value}, Since W0 W → Since w ((W.setCell ⟨w.heap.size + 1 + 1, 0, none⟩ u0).setCell ⟨w.heap.size + 1 + 1, 1, none⟩ u1) := fun h => by rw [hW0] at h; exact ((((((Since.refl w).alloc _).alloc _).alloc _).trans h).set (by show w.heap.size ≤ w.heap.size + 1 + 1; omega) _).set (by show w.heap.size ≤ w.heap.size + 1 + 1; omega) _
  have hS0 : Since w W0 := by rw [hW0]; exact (((Since.refl w).alloc _).alloc _).alloc _
  clear hW0
  have hR0 := Lib.hid (H.out.1.since hS0)
  have hR1 := Lib.hid (H.out.2.since hS0)
  go_enter Try.func52, Try.ntmps52
  go_wp2_with fail
  rw [← HW.out]
  go_wp2_with (go_at_call 63; (with_reducible refine (Ref02.less_any (.slice A0 n0 c0) (.slice A1 n1 c1) xs ys _ hR0.out hR1.out (by have := LL.out; omega) (by have := LL.out; omega)).mono ?_); rw [HC.out]; rintro e w1 ⟨rfl, hw1⟩; obtain ⟨⟨k0, k1, k2, k3⟩, _⟩ := hold.out _ hw1)
  have hh : Hid (∀ W : World, (W.cell? ⟨w.heap.size, 0, none⟩ = some (.bool na) ∧ W.cell? ⟨w.heap.size, 1, none⟩ = some (.slice A0 n0 c0) ∧ W.cell? ⟨w.heap.size + 1, 0, none⟩ = some (.bool nb) ∧ W.cell? ⟨w.heap.size + 1, 1, none⟩ = some (.slice A1 n1 c1)) ∧ Since w W → Since w W) := fun W h => h.2
  go_region_held3 (fun W => (W.cell? ⟨w.heap.size, 0, none⟩ = some (.bool na) ∧ W.cell? ⟨w.heap.size, 1, none⟩ = some (.slice A0 n0 c0) ∧ W.cell? ⟨w.heap.size + 1, 0, none⟩ = some (.bool nb) ∧ W.cell? ⟨w.heap.size + 1, 1, none⟩ = some (.slice A1 n1 c1)) ∧ Since w W)
    (first | exact hold.out _ (Since.refl _) | exact hold.out _ (Since.drew (Since.refl _)) | exact hold.out _ (Since.drew ‹Since W0 _›) | exact hold.out _ ‹Since W0 _› | exact ⟨by go_simp, since_set3 ‹Since W0 _›⟩)
    (first
      | (go_at_call 59; go_loud ((with_reducible refine ((Ref02.minus_any (.slice A0 n0 c0) (.slice A1 n1 c1) xs ys _ (H.out.1.since (hh.out _ (by assumption))) (H.out.2.since (hh.out _ (by assumption))) (by have := LL.out; omega) HQ.out HLE.out).mono fun _ _ h => RetRow.sl h).mono ?_)); rintro e x1 ⟨A2, c2, rfl, hr1, hs1⟩; have hK1 := Since.trans (Since.drew hw1) hs1)
      | (go_at_call 46; (with_reducible refine (made_any (.slice A2 (digs (num xs - num ys)).length c2) _ (digs (num xs - num ys)) _ hr1 HL.out).mono ?_); rintro e x2 ⟨rfl, hs2⟩; have hK2 := Since.trans hK1 hs2; have hr2 := hr1.since hs2; obtain ⟨q0, q1, q2, q3⟩ := hk3.out _ hK2))
  go_wp2
  refine bodyPost_ret (v := sv (signB na (digs (num xs - num ys))) (.slice A2 (digs (num xs - num ys)).length c2)) ?_ rfl ?_
  · simp [results, Try.results52, go_sem, q0, q1]
  · exact ⟨_, _, rfl, row_set3 hr2 (hb3.out _ hK2) _ _, since_set3 hK2⟩
end Go.Proofs.Ytmnankcllblgjaa.Ref03

namespace Go.Proofs.Ytmnankcllblgjaa.Ref03
open Go.RowKit
set_option linter.unusedVariables false
open Go.Proofs.Ytmnankcllblgjaa.Dig

theorem sum_any (A0 A1 : Option Addr) (c0 c1 : Nat) (na nb : Bool) (xs ys : List Nat) (w : World) (hx : Row w (.slice A0 xs.length c0) xs) (hy : Row w (.slice A1 ys.length c1) ys) (lx : xs.length ≤ 1000) (ly : ys.length ≤ 1000) (nx : Norm xs) (ny : Norm ys) :
    Calls Try.prog 52 #[sv na (.slice A0 xs.length c0), sv nb (.slice A1 ys.length c1)] w (RetS (ngB (sval na xs + sval nb ys)) (mag (sval na xs + sval nb ys)) w) := by
  by_cases hs : (na == nb) = true
  · have h := sum_eq A0 A1 c0 c1 na nb xs ys w hx hy lx ly hs
    have e : na = nb := by simpa using hs
    subst e
    have e1 : digs (num xs + num ys) = mag (sval na xs + sval na ys) := by
      unfold mag sval; congr 1; cases na <;> simp <;> omega
    rw [e1, sign_mag _ na (fun hz => by
      unfold ngB sval at *
      cases na
      · simp; omega
      · simp at hz ⊢; omega)] at h
    exact h
  · have hs' : (na == nb) = false := by simpa using hs
    have el := lessB_norm hx.dig hy.dig nx ny
    by_cases hc : num xs < num ys
    · rw [decide_eq_true hc] at el
      have h := sum_lt_ A0 A1 c0 c1 na nb xs ys w hx hy lx ly hs' el (norm_len_le hy.dig nx (by omega)) (by omega)
      have e1 : digs (num ys - num xs) = mag (sval na xs + sval nb ys) := by
        unfold mag sval; congr 1; cases na <;> cases nb <;> simp at hs' ⊢ <;> omega
      rw [e1, sign_mag _ nb (fun hz => by
        unfold ngB sval at *
        cases na <;> cases nb <;> simp at hs' hz ⊢ <;> omega)] at h
      exact h
    · rw [decide_eq_false hc] at el
      have h := sum_ge_ A0 A1 c0 c1 na nb xs ys w hx hy lx ly hs' el (norm_len_le hx.dig ny (by omega)) (by omega)
      have e1 : digs (num xs - num ys) = mag (sval na xs + sval nb ys) := by
        unfold mag sval; congr 1; cases na <;> cases nb <;> simp at hs' ⊢ <;> omega
      rw [e1, sign_mag _ na (fun hz => by
        unfold ngB sval at *
        cases na <;> cases nb <;> simp at hs' hz ⊢ <;> omega)] at h
      exact h
theorem fit_any (A : Option Addr) (c : Nat) (neg : Bool) (ds : List Nat) (w : World) (h : Row w (.slice A ds.length c) ds) (hl : ds.length ≤ 1000000) :
    Calls Try.prog 51 #[sv neg (.slice A ds.length c)] w (if ds.length ≤ 256 then RetSErr neg ds 0 w else RetSErr false [] 3 w) := by
  have H := Lib.hid h
  clear h
  by_cases hb : ds.length ≤ 256
  · rw [if_pos hb]
    go_enter Try.func51, Try.ntmps51
    go_wp2
    refine bodyPost_ret (v := .tuple #[sv neg (.slice A ds.length c), .int .i64 0]) ?_ rfl ?_
    · simp [results, Try.results51, go_sem]
    · exact ⟨_, _, rfl, H.out.since (((Since.refl w).alloc _).alloc _), ((Since.refl w).alloc _).alloc _⟩
  · rw [if_neg hb]
    go_enter Try.func51, Try.ntmps51
    go_wp2
    refine bodyPost_ret (v := .tuple #[sv false (.slice none 0 0), .int .i64 3]) ?_ rfl ?_
    · simp [results, Try.results51, go_sem]
    · exact ⟨_, _, rfl, Row.nil _, ((Since.refl w).alloc _).alloc _⟩
end Go.Proofs.Ytmnankcllblgjaa.Ref03

namespace Go.Proofs.Ytmnankcllblgjaa.Ref03
open Go.RowKit
set_option linter.unusedVariables false
open Go.Proofs.Ytmnankcllblgjaa.Dig

theorem times_z (A0 A1 : Option Addr) (c0 c1 : Nat) (na nb : Bool) (xs ys : List Nat) (w : World) (hx : Row w (.slice A0 xs.length c0) xs) (hy : Row w (.slice A1 ys.length c1) ys) (lx : xs.length ≤ 1000) (ly : ys.length ≤ 1000) :
    Calls Try.prog 54 #[sv na (.slice A0 xs.length c0), sv nb (.slice A1 ys.length c1)] w (RetS (ngB (sval na xs * sval nb ys)) (mag (sval na xs * sval nb ys)) w) := by
  have h := times_any A0 A1 c0 c1 na nb xs ys w hx hy lx ly
  have e1 : digs (num xs * num ys) = mag (sval na xs * sval nb ys) := by
    unfold mag; rw [Int.natAbs_mul, sval_abs, sval_abs]
  rw [e1, sign_mag _ (na != nb) (fun hz => by
    unfold ngB sval at *
    have h0 : (num xs : Int) * (num ys : Int) ≠ 0 := by
      intro h0
      apply hz
      cases na <;> cases nb <;> simp only [Bool.false_eq_true, if_false, if_true, Int.neg_mul, Int.mul_neg, h0] <;> omega
    have h1 : 0 < (num xs : Int) * (num ys : Int) := by
      have : 0 ≤ (num xs : Int) * (num ys : Int) := Int.mul_nonneg (by omega) (by omega)
      omega
    cases na <;> cases nb <;> simp [Int.neg_mul, Int.mul_neg] <;> omega)] at h
  exact h
set_option maxRecDepth 100000 in
set_option maxHeartbeats 2000000 in
theorem add_any (A0 A1 : Option Addr) (c0 c1 : Nat) (na nb : Bool) (xs ys : List Nat) (w : World) (hx : Row w (.slice A0 xs.length c0) xs) (hy : Row w (.slice A1 ys.length c1) ys) (lx : xs.length ≤ 1000) (ly : ys.length ≤ 1000) :
    Calls Try.prog 23 #[sv na (.slice A0 xs.length c0), sv nb (.slice A1 ys.length c1)] w (RetZ (addZ na xs nb ys) w) := by
  have H := Lib.hid (And.intro hx hy)
  have LL := Lib.hid (And.intro lx ly)
  have hz1 := add_len (na := na) (nb := nb) hx.dig hy.dig lx ly
  have HZ := Lib.hid hz1
  have SUM := Lib.hid (fun (W : World) (gx : Row W (.slice A0 xs.length c0) xs) (gy : Row W (.slice A1 ys.length c1) ys) (r1 : srightB na xs = true) (r2 : srightB nb ys = true) => sum_any A0 A1 c0 c1 na nb xs ys W gx gy lx ly (right_norm (sright_right r1)).2 (right_norm (sright_right r2)).2)
  have HE := Lib.hid (show ∀ r, addZ na xs nb ys = r → RetZ (addZ na xs nb ys) w = RetZ r w from fun r h => by rw [h])
  obtain ⟨Z, hZ⟩ : ∃ Z, Z = addZ na xs nb ys := ⟨_, rfl⟩
  rw [← hZ]
  obtain ⟨z, hzz⟩ : ∃ z, z = sval na xs + sval nb ys := ⟨_, rfl⟩
  rw [← hzz] at SUM HZ
  have EZ := Lib.hid (show Z = if srightB na xs = true ∧ srightB nb ys = true then fitZ z else ((false, []), 2) by rw [hZ, hzz]; rfl)
  clear HE hz1 hZ hzz hx hy lx ly
  obtain ⟨n0, hn0⟩ : ∃ n, n = xs.length := ⟨_, rfl⟩
  obtain ⟨n1, hn1⟩ : ∃ n, n = ys.length := ⟨_, rfl⟩
  rw [← hn0] at H SUM ⊢
  rw [← hn1] at H SUM ⊢
  clear hn0 hn1
  obtain ⟨W0, hW0⟩ : ∃ W0, W0 = ((w.alloc (.cells #[.bool na, .slice A0 n0 c0] 24)).alloc (.cells #[.bool nb, .slice A1 n1 c1] 24)).alloc (.cells #[.bool false, .slice none 0 0] 24) := ⟨_, rfl⟩
  have HW := Lib.hid hW0
  have hold : Hid (∀ W : World, Since W0 W → (W.cell? ⟨w.heap.size, 0, none⟩ = some (.bool na) ∧ W.cell? ⟨w.heap.size, 1, none⟩ = some (.slice A0 n0 c0) ∧ W.cell? ⟨w.heap.size + 1, 0, none⟩ = some (.bool nb) ∧ W.cell? ⟨w.heap.size + 1, 1, none⟩ = some (.slice A1 n1 c1)) ∧ Since w W) := fun W h => ⟨hold2 (hW0 ▸ h), by rw [hW0] at h; exact ((((Since.refl w).alloc _).alloc _).alloc _).trans h⟩
  have hk3 : Hid (∀ W : World, Since W0 W → W.cell? ⟨w.heap.size + 1 + 1, 0, none⟩ = some (.bool false) ∧ W.cell? ⟨w.heap.size + 1 + 1, 1, none⟩ = some (.slice none 0 0) ∧ W.frozen? ⟨w.heap.size + 1 + 1, 0, none⟩ = false ∧ W.frozen? ⟨w.heap.size + 1 + 1, 1, none⟩ = false) := fun W h => keep3 (hW0 ▸ h)
  have hb3 : Hid (∀ W : World, Since W0 W → Since (((w.alloc (.cells #[.bool na, .slice A0 n0 c0] 24)).alloc (.cells #[.bool nb, .slice A1 n1 c1] 24)).alloc (.cells #[.bool false, .slice none 0 0] 24)) W) := fun W h => hW0 ▸ h
  have since_set3 : ∀ {W : World} {u0 u1 : Value}, Since W0 W → Since w ((W.setCell ⟨w.heap.size + 1 + 1, 0, none⟩ u0).setCell ⟨w.heap.size + 1 + 1, 1, none⟩ u1) := fun h => by rw [hW0] at h; exact ((((((Since.refl w).alloc _).alloc _).alloc _).trans h).set (by show w.heap.size ≤ w.heap.size + 1 + 1; omega) _).set (by show w.heap.size ≤ w.heap.size + 1 + 1; omega) _
  have hS0 : Since w W0 := by rw [hW0]; exact (((Since.refl w).alloc _).alloc _).alloc _
  clear hW0
  have hK := Since.refl W0
  by_cases r1 : srightB na xs = true
  · by_cases r2 : srightB nb ys = true
    · have R1 := Lib.hid r1
      have R2 := Lib.hid r2
      by_cases hf : (mag z).length ≤ 256
      · have E := Lib.hid (show Z = ((ngB z, mag z), 0) by rw [EZ.out, if_pos ⟨r1, r2⟩, fitZ, if_pos hf])
        have HF := Lib.hid hf
        clear r1 r2 hf
        go_enter Try.func23, Try.ntmps23
        go_wp2_with fail
        rw [← HW.out]
        go_wp2_with (first
          | (go_at_call 17; (with_reducible refine (right_any (.slice A0 n0 c0) na xs _ (H.out.1.since (hS0.trans hK)) (by have := LL.out; omega)).mono ?_); rw [R1.out]; rintro e w1 ⟨rfl, h1⟩; have hK := hK.trans h1; obtain ⟨⟨k0, k1, k2, k3⟩, _⟩ := hold.out _ hK; obtain ⟨q0, q1, q2, q3⟩ := hk3.out _ hK)
          | (go_at_call 17; (with_reducible refine (right_any (.slice A1 n1 c1) nb ys _ (H.out.2.since (hS0.trans hK)) (by have := LL.out; omega)).mono ?_); rw [R2.out]; rintro e w2 ⟨rfl, h2⟩; have hK := hK.trans h2; obtain ⟨⟨k0, k1, k2, k3⟩, _⟩ := hold.out _ hK; obtain ⟨q0, q1, q2, q3⟩ := hk3.out _ hK)
          | (go_at_call 52; (with_reducible refine (SUM.out _ (H.out.1.since (hS0.trans hK)) (H.out.2.since (hS0.trans hK)) R1.out R2.out).mono ?_); rintro e w3 ⟨A2, c2, rfl, hr, h3⟩; have hK := hK.trans h3; obtain ⟨⟨k0, k1, k2, k3⟩, _⟩ := hold.out _ hK; obtain ⟨q0, q1, q2, q3⟩ := hk3.out _ hK)
          | (go_at_call 51; (with_reducible refine (fit_any A2 c2 (ngB z) (mag z) _ hr HZ.out).mono ?_); rw [if_pos HF.out]; rintro e w4 ⟨A3, c3, rfl, hr4, h4⟩; have hK := hK.trans h4; obtain ⟨⟨k0, k1, k2, k3⟩, _⟩ := hold.out _ hK; obtain ⟨q0, q1, q2, q3⟩ := hk3.out _ hK))
        refine bodyPost_ret (v := .tuple #[sv (ngB z) (.slice A3 (mag z).length c3), .int .i64 0]) ?_ rfl ?_
        · simp [results, Try.results23, go_sem, q0, q1]
        · show RetZ Z w _ _
          rw [E.out]
          exact ⟨_, _, rfl, row_set3 hr4 (hb3.out _ hK) _ _, since_set3 hK⟩
      · have E := Lib.hid (show Z = ((false, []), 3) by rw [EZ.out, if_pos ⟨r1, r2⟩, fitZ, if_neg hf])
        have HF := Lib.hid hf
        clear r1 r2 hf
        go_enter Try.func23, Try.ntmps23
        go_wp2_with fail
        rw [← HW.out]
        go_wp2_with (first
          | (go_at_call 17; (with_reducible refine (right_any (.slice A0 n0 c0) na xs _ (H.out.1.since (hS0.trans hK)) (by have := LL.out; omega)).mono ?_); rw [R1.out]; rintro e w1 ⟨rfl, h1⟩; have hK := hK.trans h1; obtain ⟨⟨k0, k1, k2, k3⟩, _⟩ := hold.out _ hK; obtain ⟨q0, q1, q2, q3⟩ := hk3.out _ hK)
          | (go_at_call 17; (with_reducible refine (right_any (.slice A1 n1 c1) nb ys _ (H.out.2.since (hS0.trans hK)) (by have := LL.out; omega)).mono ?_); rw [R2.out]; rintro e w2 ⟨rfl, h2⟩; have hK := hK.trans h2; obtain ⟨⟨k0, k1, k2, k3⟩, _⟩ := hold.out _ hK; obtain ⟨q0, q1, q2, q3⟩ := hk3.out _ hK)
          | (go_at_call 52; (with_reducible refine (SUM.out _ (H.out.1.since (hS0.trans hK)) (H.out.2.since (hS0.trans hK)) R1.out R2.out).mono ?_); rintro e w3 ⟨A2, c2, rfl, hr, h3⟩; have hK := hK.trans h3; obtain ⟨⟨k0, k1, k2, k3⟩, _⟩ := hold.out _ hK; obtain ⟨q0, q1, q2, q3⟩ := hk3.out _ hK)
          | (go_at_call 51; (with_reducible refine (fit_any A2 c2 (ngB z) (mag z) _ hr HZ.out).mono ?_); rw [if_neg HF.out]; rintro e w4 ⟨A3, c3, rfl, hr4, h4⟩; have hK := hK.trans h4; obtain ⟨⟨k0, k1, k2, k3⟩, _⟩ := hold.out _ hK; obtain ⟨q0, q1, q2, q3⟩ := hk3.out _ hK))
        refine bodyPost_ret (v := .tuple #[sv false (.slice A3 0 c3), .int .i64 3]) ?_ rfl ?_
        · simp [results, Try.results23, go_sem, q0, q1]
        · show RetZ Z w _ _
          rw [E.out]
          exact ⟨_, _, rfl, row_set3 hr4 (hb3.out _ hK) _ _, since_set3 hK⟩
    · have R1 := Lib.hid r1
      have R2 := Lib.hid (show srightB nb ys = false by simpa using r2)
      have E := Lib.hid (show Z = ((false, []), 2) by rw [EZ.out, if_neg (fun h => r2 h.2)])
      clear r1 r2
      go_enter Try.func23, Try.ntmps23
      go_wp2_with fail
      rw [← HW.out]
      go_wp2_with (first
        | (go_at_call 17; (with_reducible refine (right_any (.slice A0 n0 c0) na xs _ (H.out.1.since (hS0.trans hK)) (by have := LL.out; omega)).mono ?_); rw [R1.out]; rintro e w1 ⟨rfl, h1⟩; have hK := hK.trans h1; obtain ⟨⟨k0, k1, k2, k3⟩, _⟩ := hold.out _ hK; obtain ⟨q0, q1, q2, q3⟩ := hk3.out _ hK)
        | (go_at_call 17; (with_reducible refine (right_any (.slice A1 n1 c1) nb ys _ (H.out.2.since (hS0.trans hK)) (by have := LL.out; omega)).mono ?_); rw [R2.out]; rintro e w2 ⟨rfl, h2⟩; have hK := hK.trans h2; obtain ⟨⟨k0, k1, k2, k3⟩, _⟩ := hold.out _ hK; obtain ⟨q0, q1, q2, q3⟩ := hk3.out _ hK))
      refine bodyPost_ret (v := .tuple #[sv false (.slice none 0 0), .int .i64 2]) ?_ rfl ?_
      · simp [results, Try.results23, go_sem, q0, q1]
      · show RetZ Z w _ _
        rw [E.out]
        exact ⟨_, _, rfl, Row.nil _, since_set3 hK⟩
  · have R1 := Lib.hid (show srightB na xs = false by simpa using r1)
    have E := Lib.hid (show Z = ((false, []), 2) by rw [EZ.out, if_neg (fun h => r1 h.1)])
    clear r1
    go_enter Try.func23, Try.ntmps23
    go_wp2_with fail
    rw [← HW.out]
    go_wp2_with (first
      | (go_at_call 17; (with_reducible refine (right_any (.slice A0 n0 c0) na xs _ (H.out.1.since (hS0.trans hK)) (by have := LL.out; omega)).mono ?_); rw [R1.out]; rintro e w1 ⟨rfl, h1⟩; have hK := hK.trans h1; obtain ⟨⟨k0, k1, k2, k3⟩, _⟩ := hold.out _ hK; obtain ⟨q0, q1, q2, q3⟩ := hk3.out _ hK))
    refine bodyPost_ret (v := .tuple #[sv false (.slice none 0 0), .int .i64 2]) ?_ rfl ?_
    · simp [results, Try.results23, go_sem, q0, q1]
    · show RetZ Z w _ _
      rw [E.out]
      exact ⟨_, _, rfl, Row.nil _, since_set3 hK⟩
set_option maxRecDepth 100000 in
set_option maxHeartbeats 2000000 in
theorem mul_any (A0 A1 : Option Addr) (c0 c1 : Nat) (na nb : Bool) (xs ys : List Nat) (w : World) (hx : Row w (.slice A0 xs.length c0) xs) (hy : Row w (.slice A1 ys.length c1) ys) (lx : xs.length ≤ 1000) (ly : ys.length ≤ 1000) :
    Calls Try.prog 25 #[sv na (.slice A0 xs.length c0), sv nb (.slice A1 ys.length c1)] w (RetZ (mulZ na xs nb ys) w) := by
  have H := Lib.hid (And.intro hx hy)
  have LL := Lib.hid (And.intro lx ly)
  have hz1 := mul_len (na := na) (nb := nb) hx.dig hy.dig lx ly
  have HZ := Lib.hid hz1
  have SUM := Lib.hid (fun (W : World) (gx : Row W (.slice A0 xs.length c0) xs) (gy : Row W (.slice A1 ys.length c1) ys) (r1 : srightB na xs = true) (r2 : srightB nb ys = true) => times_z A0 A1 c0 c1 na nb xs ys W gx gy lx ly)
  have HE := Lib.hid (show ∀ r, mulZ na xs nb ys = r → RetZ (mulZ na xs nb ys) w = RetZ r w from fun r h => by rw [h])
  obtain ⟨Z, hZ⟩ : ∃ Z, Z = mulZ na xs nb ys := ⟨_, rfl⟩
  rw [← hZ]
  obtain ⟨z, hzz⟩ : ∃ z, z = sval na xs * sval nb ys := ⟨_, rfl⟩
  rw [← hzz] at SUM HZ
  have EZ := Lib.hid (show Z = if srightB na xs = true ∧ srightB nb ys = true then fitZ z else ((false, []), 2) by rw [hZ, hzz]; rfl)
  clear HE hz1 hZ hzz hx hy lx ly
  obtain ⟨n0, hn0⟩ : ∃ n, n = xs.length := ⟨_, rfl⟩
  obtain ⟨n1, hn1⟩ : ∃ n, n = ys.length := ⟨_, rfl⟩
  rw [← hn0] at H SUM ⊢
  rw [← hn1] at H SUM ⊢
  clear hn0 hn1
  obtain ⟨W0, hW0⟩ : ∃ W0, W0 = ((w.alloc (.cells #[.bool na, .slice A0 n0 c0] 24)).alloc (.cells #[.bool nb, .slice A1 n1 c1] 24)).alloc (.cells #[.bool false, .slice none 0 0] 24) := ⟨_, rfl⟩
  have HW := Lib.hid hW0
  have hold : Hid (∀ W : World, Since W0 W → (W.cell? ⟨w.heap.size, 0, none⟩ = some (.bool na) ∧ W.cell? ⟨w.heap.size, 1, none⟩ = some (.slice A0 n0 c0) ∧ W.cell? ⟨w.heap.size + 1, 0, none⟩ = some (.bool nb) ∧ W.cell? ⟨w.heap.size + 1, 1, none⟩ = some (.slice A1 n1 c1)) ∧ Since w W) := fun W h => ⟨hold2 (hW0 ▸ h), by rw [hW0] at h; exact ((((Since.refl w).alloc _).alloc _).alloc _).trans h⟩
  have hk3 : Hid (∀ W : World, Since W0 W → W.cell? ⟨w.heap.size + 1 + 1, 0, none⟩ = some (.bool false) ∧ W.cell? ⟨w.heap.size + 1 + 1, 1, none⟩ = some (.slice none 0 0) ∧ W.frozen? ⟨w.heap.size + 1 + 1, 0, none⟩ = false ∧ W.frozen? ⟨w.heap.size + 1 + 1, 1, none⟩ = false) := fun W h => keep3 (hW0 ▸ h)
  have hb3 : Hid (∀ W : World, Since W0 W → Since (((w.alloc (.cells #[.bool na, .slice A0 n0 c0] 24)).alloc (.cells #[.bool nb, .slice A1 n1 c1] 24)).alloc (.cells #[.bool false, .slice none 0 0] 24)) W) := fun W h => hW0 ▸ h
  have since_set3 : ∀ {W : World} {u0 u1 : Value}, Since W0 W → Since w ((W.setCell ⟨w.heap.size + 1 + 1, 0, none⟩ u0).setCell ⟨w.heap.size + 1 + 1, 1, none⟩ u1) := fun h => by rw [hW0] at h; exact ((((((Since.refl w).alloc _).alloc _).alloc _).trans h).set (by show w.heap.size ≤ w.heap.size + 1 + 1; omega) _).set (by show w.heap.size ≤ w.heap.size + 1 + 1; omega) _
  have hS0 : Since w W0 := by rw [hW0]; exact (((Since.refl w).alloc _).alloc _).alloc _
  clear hW0
  have hK := Since.refl W0
  by_cases r1 : srightB na xs = true
  · by_cases r2 : srightB nb ys = true
    · have R1 := Lib.hid r1
      have R2 := Lib.hid r2
      by_cases hf : (mag z).length ≤ 256
      · have E := Lib.hid (show Z = ((ngB z, mag z), 0) by rw [EZ.out, if_pos ⟨r1, r2⟩, fitZ, if_pos hf])
        have HF := Lib.hid hf
        clear r1 r2 hf
        go_enter Try.func25, Try.ntmps25
        go_wp2_with fail
        rw [← HW.out]
        go_wp2_with (first
          | (go_at_call 17; (with_reducible refine (right_any (.slice A0 n0 c0) na xs _ (H.out.1.since (hS0.trans hK)) (by have := LL.out; omega)).mono ?_); rw [R1.out]; rintro e w1 ⟨rfl, h1⟩; have hK := hK.trans h1; obtain ⟨⟨k0, k1, k2, k3⟩, _⟩ := hold.out _ hK; obtain ⟨q0, q1, q2, q3⟩ := hk3.out _ hK)
          | (go_at_call 17; (with_reducible refine (right_any (.slice A1 n1 c1) nb ys _ (H.out.2.since (hS0.trans hK)) (by have := LL.out; omega)).mono ?_); rw [R2.out]; rintro e w2 ⟨rfl, h2⟩; have hK := hK.trans h2; obtain ⟨⟨k0, k1, k2, k3⟩, _⟩ := hold.out _ hK; obtain ⟨q0, q1, q2, q3⟩ := hk3.out _ hK)
          | (go_at_call 54; (with_reducible refine (SUM.out _ (H.out.1.since (hS0.trans hK)) (H.out.2.since (hS0.trans hK)) R1.out R2.out).mono ?_); rintro e w3 ⟨A2, c2, rfl, hr, h3⟩; have hK := hK.trans h3; obtain ⟨⟨k0, k1, k2, k3⟩, _⟩ := hold.out _ hK; obtain ⟨q0, q1, q2, q3⟩ := hk3.out _ hK)
          | (go_at_call 51; (with_reducible refine (fit_any A2 c2 (ngB z) (mag z) _ hr HZ.out).mono ?_); rw [if_pos HF.out]; rintro e w4 ⟨A3, c3, rfl, hr4, h4⟩; have hK := hK.trans h4; obtain ⟨⟨k0, k1, k2, k3⟩, _⟩ := hold.out _ hK; obtain ⟨q0, q1, q2, q3⟩ := hk3.out _ hK))
        refine bodyPost_ret (v := .tuple #[sv (ngB z) (.slice A3 (mag z).length c3), .int .i64 0]) ?_ rfl ?_
        · simp [results, Try.results25, go_sem, q0, q1]
        · show RetZ Z w _ _
          rw [E.out]
          exact ⟨_, _, rfl, row_set3 hr4 (hb3.out _ hK) _ _, since_set3 hK⟩
      · have E := Lib.hid (show Z = ((false, []), 3) by rw [EZ.out, if_pos ⟨r1, r2⟩, fitZ, if_neg hf])
        have HF := Lib.hid hf
        clear r1 r2 hf
        go_enter Try.func25, Try.ntmps25
        go_wp2_with fail
        rw [← HW.out]
        go_wp2_with (first
          | (go_at_call 17; (with_reducible refine (right_any (.slice A0 n0 c0) na xs _ (H.out.1.since (hS0.trans hK)) (by have := LL.out; omega)).mono ?_); rw [R1.out]; rintro e w1 ⟨rfl, h1⟩; have hK := hK.trans h1; obtain ⟨⟨k0, k1, k2, k3⟩, _⟩ := hold.out _ hK; obtain ⟨q0, q1, q2, q3⟩ := hk3.out _ hK)
          | (go_at_call 17; (with_reducible refine (right_any (.slice A1 n1 c1) nb ys _ (H.out.2.since (hS0.trans hK)) (by have := LL.out; omega)).mono ?_); rw [R2.out]; rintro e w2 ⟨rfl, h2⟩; have hK := hK.trans h2; obtain ⟨⟨k0, k1, k2, k3⟩, _⟩ := hold.out _ hK; obtain ⟨q0, q1, q2, q3⟩ := hk3.out _ hK)
          | (go_at_call 54; (with_reducible refine (SUM.out _ (H.out.1.since (hS0.trans hK)) (H.out.2.since (hS0.trans hK)) R1.out R2.out).mono ?_); rintro e w3 ⟨A2, c2, rfl, hr, h3⟩; have hK := hK.trans h3; obtain ⟨⟨k0, k1, k2, k3⟩, _⟩ := hold.out _ hK; obtain ⟨q0, q1, q2, q3⟩ := hk3.out _ hK)
          | (go_at_call 51; (with_reducible refine (fit_any A2 c2 (ngB z) (mag z) _ hr HZ.out).mono ?_); rw [if_neg HF.out]; rintro e w4 ⟨A3, c3, rfl, hr4, h4⟩; have hK := hK.trans h4; obtain ⟨⟨k0, k1, k2, k3⟩, _⟩ := hold.out _ hK; obtain ⟨q0, q1, q2, q3⟩ := hk3.out _ hK))
        refine bodyPost_ret (v := .tuple #[sv false (.slice A3 0 c3), .int .i64 3]) ?_ rfl ?_
        · simp [results, Try.results25, go_sem, q0, q1]
        · show RetZ Z w _ _
          rw [E.out]
          exact ⟨_, _, rfl, row_set3 hr4 (hb3.out _ hK) _ _, since_set3 hK⟩
    · have R1 := Lib.hid r1
      have R2 := Lib.hid (show srightB nb ys = false by simpa using r2)
      have E := Lib.hid (show Z = ((false, []), 2) by rw [EZ.out, if_neg (fun h => r2 h.2)])
      clear r1 r2
      go_enter Try.func25, Try.ntmps25
      go_wp2_with fail
      rw [← HW.out]
      go_wp2_with (first
        | (go_at_call 17; (with_reducible refine (right_any (.slice A0 n0 c0) na xs _ (H.out.1.since (hS0.trans hK)) (by have := LL.out; omega)).mono ?_); rw [R1.out]; rintro e w1 ⟨rfl, h1⟩; have hK := hK.trans h1; obtain ⟨⟨k0, k1, k2, k3⟩, _⟩ := hold.out _ hK; obtain ⟨q0, q1, q2, q3⟩ := hk3.out _ hK)
        | (go_at_call 17; (with_reducible refine (right_any (.slice A1 n1 c1) nb ys _ (H.out.2.since (hS0.trans hK)) (by have := LL.out; omega)).mono ?_); rw [R2.out]; rintro e w2 ⟨rfl, h2⟩; have hK := hK.trans h2; obtain ⟨⟨k0, k1, k2, k3⟩, _⟩ := hold.out _ hK; obtain ⟨q0, q1, q2, q3⟩ := hk3.out _ hK))
      refine bodyPost_ret (v := .tuple #[sv false (.slice none 0 0), .int .i64 2]) ?_ rfl ?_
      · simp [results, Try.results25, go_sem, q0, q1]
      · show RetZ Z w _ _
        rw [E.out]
        exact ⟨_, _, rfl, Row.nil _, since_set3 hK⟩
  · have R1 := Lib.hid (show srightB na xs = false by simpa using r1)
    have E := Lib.hid (show Z = ((false, []), 2) by rw [EZ.out, if_neg (fun h => r1 h.1)])
    clear r1
    go_enter Try.func25, Try.ntmps25
    go_wp2_with fail
    rw [← HW.out]
    go_wp2_with (first
      | (go_at_call 17; (with_reducible refine (right_any (.slice A0 n0 c0) na xs _ (H.out.1.since (hS0.trans hK)) (by have := LL.out; omega)).mono ?_); rw [R1.out]; rintro e w1 ⟨rfl, h1⟩; have hK := hK.trans h1; obtain ⟨⟨k0, k1, k2, k3⟩, _⟩ := hold.out _ hK; obtain ⟨q0, q1, q2, q3⟩ := hk3.out _ hK))
    refine bodyPost_ret (v := .tuple #[sv false (.slice none 0 0), .int .i64 2]) ?_ rfl ?_
    · simp [results, Try.results25, go_sem, q0, q1]
    · show RetZ Z w _ _
      rw [E.out]
      exact ⟨_, _, rfl, Row.nil _, since_set3 hK⟩
end Go.Proofs.Ytmnankcllblgjaa.Ref03
