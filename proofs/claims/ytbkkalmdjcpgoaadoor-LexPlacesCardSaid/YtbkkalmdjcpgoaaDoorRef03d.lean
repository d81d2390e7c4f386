/- What the document's own Sum gives back. -/
import Derived.Test.YtbkkalmdjcpgoaaDoorRef03c
import Derived.Test.YtbkkalmdjcpgoaaDoorRef02f
import Derived.Test.YtbkkalmdjcpgoaaDoorRef02c
namespace Go.Proofs.YtbkkalmdjcpgoaaDoor.Ref03
open Go.RowKit
set_option linter.unusedVariables false
open Go.Proofs.YtbkkalmdjcpgoaaDoor.Dig

set_option maxRecDepth 100000 in
set_option maxHeartbeats 1000000 in
theorem sum_eq (A0 A1 : Option Addr) (c0 c1 : Nat) (na nb : Bool) (xs ys : List Nat) (w : World) (hx : Row w (.slice A0 xs.length c0) xs) (hy : Row w (.slice A1 ys.length c1) ys) (lx : xs.length ≤ 1000) (ly : ys.length ≤ 1000) (hs : (na == nb) = true) :
    Calls Tryd.prog 36 #[sv na (.slice A0 xs.length c0), sv nb (.slice A1 ys.length c1)] w (RetS (signB na (digs (num xs + num ys))) (digs (num xs + num ys)) w) := by
  have H := Lib.hid (And.intro hx hy)
  have HL := Lib.hid (show (digs (num xs + num ys)).length ≤ 1000000 by have h1 := num_lt hx.dig; have h2 := num_lt hy.dig; obtain ⟨k, hk⟩ : ∃ k, k = 1000 := ⟨_, rfl⟩; rw [← hk] at lx ly; have h3 := Nat.pow_le_pow_right (n := 4294967296) (by omega) lx; have h4 := Nat.pow_le_pow_right (n := 4294967296) (by omega) ly; exact Nat.le_trans (digs_len_le (k := k + 1) (sum_lt (Nat.lt_of_lt_of_le h1 h3) (Nat.lt_of_lt_of_le h2 h4))) (by omega))
  have LL := Lib.hid (And.intro lx ly)
  have HE := Lib.hid (And.intro lx ly)
  clear hx hy lx ly
  obtain ⟨n0, hn0⟩ : ∃ n, n = xs.length := ⟨_, rfl⟩
  obtain ⟨n1, hn1⟩ : ∃ n, n = ys.length := ⟨_, rfl⟩
  rw [← hn0] at H ⊢
  rw [← hn1] at H ⊢
  clear hn0 hn1
  obtain ⟨W0, hW0⟩ : ∃ W0, W0 = ((w.alloc (.cells #[.bool na, .slice A0 n0 c0] 65)).alloc (.cells #[.bool nb, .slice A1 n1 c1] 65)).alloc (.cells #[.bool false, .slice none 0 0] 65) := ⟨_, rfl⟩
  have HW := Lib.hid hW0
  have hold : Hid (∀ W : World, Since W0 W → (W.cell? ⟨w.heap.size, 0, none⟩ = some (.bool na) ∧ W.cell? ⟨w.heap.size, 1, none⟩ = some (.slice A0 n0 c0) ∧ W.cell? ⟨w.heap.size + 1, 0, none⟩ = some (.bool nb) ∧ W.cell? ⟨w.heap.size + 1, 1, none⟩ = some (.slice A1 n1 c1)) ∧ Since w W) := fun W h => ⟨hold2 (hW0 ▸ h), by rw [hW0] at h; exact ((((Since.refl w).alloc _).alloc _).alloc _).trans h⟩
  have hk3 : Hid (∀ W : World, Since W0 W → W.cell? ⟨w.heap.size + 1 + 1, 0, none⟩ = some (.bool false) ∧ W.cell? ⟨w.heap.size + 1 + 1, 1, none⟩ = some (.slice none 0 0) ∧ W.frozen? ⟨w.heap.size + 1 + 1, 0, none⟩ = false ∧ W.frozen? ⟨w.heap.size + 1 + 1, 1, none⟩ = false) := fun W h => keep3 (hW0 ▸ h)
  have hb3 : Hid (∀ W : World, Since W0 W → Since (((w.alloc (.cells #[.bool na, .slice A0 n0 c0] 65)).alloc (.cells #[.bool nb, .slice A1 n1 c1] 65)).alloc (.cells #[.bool false, .slice none 0 0] 65)) W) := fun W h => hW0 ▸ h
  have since_set3 : ∀ {W : World} {u0 u1 : Value}, Since W0 W → Since w ((W.setCell ⟨w.heap.size + 1 + 1, 0, none⟩ u0).setCell ⟨w.heap.size + 1 + 1, 1, none⟩ u1) := fun h => by rw [hW0] at h; exact ((((((Since.refl w).alloc _).alloc _).alloc _).trans h).set (by show w.heap.size ≤ w.heap.size + 1 + 1; omega) _).set (by show w.heap.size ≤ w.heap.size + 1 + 1; omega) _
  have hS0 : Since w W0 := by rw [hW0]; exact (((Since.refl w).alloc _).alloc _).alloc _
  clear hW0
  go_enter Tryd.func36, Tryd.ntmps36
  go_wp2
  rw [← HW.out]
  have hh : Hid (∀ W : World, (W.cell? ⟨w.heap.size, 0, none⟩ = some (.bool na) ∧ W.cell? ⟨w.heap.size, 1, none⟩ = some (.slice A0 n0 c0) ∧ W.cell? ⟨w.heap.size + 1, 0, none⟩ = some (.bool nb) ∧ W.cell? ⟨w.heap.size + 1, 1, none⟩ = some (.slice A1 n1 c1)) ∧ Since w W → Since w W) := fun W h => h.2
  go_region_held3 (fun W => (W.cell? ⟨w.heap.size, 0, none⟩ = some (.bool na) ∧ W.cell? ⟨w.heap.size, 1, none⟩ = some (.slice A0 n0 c0) ∧ W.cell? ⟨w.heap.size + 1, 0, none⟩ = some (.bool nb) ∧ W.cell? ⟨w.heap.size + 1, 1, none⟩ = some (.slice A1 n1 c1)) ∧ Since w W)
    (first | exact hold.out _ (Since.refl _) | exact hold.out _ (Since.drew (Since.refl _)) | exact hold.out _ (Since.drew ‹Since W0 _›) | exact hold.out _ ‹Since W0 _› | exact ⟨by go_simp, since_set3 ‹Since W0 _›⟩)
    (first
      | (go_at_call 51; go_loud ((with_reducible refine ((Ref02.plus_any (.slice A0 n0 c0) (.slice A1 n1 c1) xs ys _ (H.out.1.since (hh.out _ (by assumption))) (H.out.2.since (hh.out _ (by assumption))) (by have := LL.out; omega) (by have := LL.out; omega)).mono fun _ _ h => RetRow.sl h).mono ?_)); rintro e x1 ⟨A2, c2, rfl, hr1, hs1⟩; have hK1 := Since.trans (Since.drew (Since.refl W0)) hs1)
      | (go_at_call 50; (with_reducible refine (made_any (.slice A2 (digs (num xs + num ys)).length c2) _ (digs (num xs + num ys)) _ hr1 HL.out).mono ?_); rintro e x2 ⟨rfl, hs2⟩; have hK2 := Since.trans hK1 hs2; have hr2 := hr1.since hs2; obtain ⟨q0, q1, q2, q3⟩ := hk3.out _ hK2))
  go_wp2
  refine bodyPost_ret (v := sv (signB na (digs (num xs + num ys))) (.slice A2 (digs (num xs + num ys)).length c2)) ?_ rfl ?_
  · simp [results, Tryd.results36, go_sem, q0, q1]
  · exact ⟨_, _, rfl, row_set3 hr2 (hb3.out _ hK2) _ _, since_set3 hK2⟩
set_option maxRecDepth 100000 in
set_option maxHeartbeats 1000000 in
theorem sum_lt_ (A0 A1 : Option Addr) (c0 c1 : Nat) (na nb : Bool) (xs ys : List Nat) (w : World) (hx : Row w (.slice A0 xs.length c0) xs) (hy : Row w (.slice A1 ys.length c1) ys) (lx : xs.length ≤ 1000) (ly : ys.length ≤ 1000) (hs : (na == nb) = false) (hc : lessB xs ys = true) (hl2 : xs.length ≤ ys.length) (hle : num xs ≤ num ys) :
    Calls Tryd.prog 36 #[sv na (.slice A0 xs.length c0), sv nb (.slice A1 ys.length c1)] w (RetS (signB nb (digs (num ys - num xs))) (digs (num ys - num xs)) w) := by
  have H := Lib.hid (And.intro hx hy)
  have HL := Lib.hid (show (digs (num ys - num xs)).length ≤ 1000000 by exact Nat.le_trans (digs_len_mono (Nat.sub_le _ _)) (Nat.le_trans (digs_len_num hy.dig) (by omega)))
  have LL := Lib.hid (And.intro lx ly)
  have HE := Lib.hid (And.intro lx ly)
  have HC := Lib.hid hc
  have HQ := Lib.hid hl2
  have HLE := Lib.hid hle
  clear hx hy lx ly hc hl2 hle
  obtain ⟨n0, hn0⟩ : ∃ n, n = xs.length := ⟨_, rfl⟩
  obtain ⟨n1, hn1⟩ : ∃ n, n = ys.length := ⟨_, rfl⟩
  rw [← hn0] at H ⊢
  rw [← hn1] at H ⊢
  clear hn0 hn1
  obtain ⟨W0, hW0⟩ : ∃ W0, W0 = ((w.alloc (.cells #[.bool na, .slice A0 n0 c0] 65)).alloc (.cells #[.bool nb, .slice A1 n1 c1] 65)).alloc (.cells #[.bool false, .slice none 0 0] 65) := ⟨_, rfl⟩
  have HW := Lib.hid hW0
  have hold : Hid (∀ W : World, Since W0 W → (W.cell? ⟨w.heap.size, 0, none⟩ = some (.bool na) ∧ W.cell? ⟨w.heap.size, 1, none⟩ = some (.slice A0 n0 c0) ∧ W.cell? ⟨w.heap.size + 1, 0, none⟩ = some (.bool nb) ∧ W.cell? ⟨w.heap.size + 1, 1, none⟩ = some (.slice A1 n1 c1)) ∧ Since w W) := fun W h => ⟨hold2 (hW0 ▸ h), by rw [hW0] at h; exact ((((Since.refl w).alloc _).alloc _).alloc _).trans h⟩
  have hk3 : Hid (∀ W : World, Since W0 W → W.cell? ⟨w.heap.size + 1 + 1, 0, none⟩ = some (.bool false) ∧ W.cell? ⟨w.heap.size + 1 + 1, 1, none⟩ = some (.slice none 0 0) ∧ W.frozen? ⟨w.heap.size + 1 + 1, 0, none⟩ = false ∧ W.frozen? ⟨w.heap.size + 1 + 1, 1, none⟩ = false) := fun W h => keep3 (hW0 ▸ h)
  have hb3 : Hid (∀ W : World, Since W0 W → Since (((w.alloc (.cells #[.bool na, .slice A0 n0 c0] 65)).alloc (.cells #[.bool nb, .slice A1 n1 c1] 65)).alloc (.cells #[.bool false, .slice none 0 0] 65)) W) := fun W h => hW0 ▸ h
  have since_set3 : ∀ {W : World} {u0 u1 : Value}, Since W0 W → Since w ((W.setCell ⟨w.heap.size + 1 + 1, 0, none⟩ u0).setCell ⟨w.heap.size + 1 + 1, 1, none⟩ u1) := fun h => by rw [hW0] at h; exact ((((((Since.refl w).alloc _).alloc _).alloc _).trans h).set (by show w.heap.size ≤ w.heap.size + 1 + 1; omega) _).set (by show w.heap.size ≤ w.heap.size + 1 + 1; omega) _
  have hS0 : Since w W0 := by rw [hW0]; exact (((Since.refl w).alloc _).alloc _).alloc _
  clear hW0
  have hR0 := Lib.hid (H.out.1.since hS0)
  have hR1 := Lib.hid (H.out.2.since hS0)
  go_enter Tryd.func36, Tryd.ntmps36
  go_wp2_with fail
  rw [← HW.out]
  go_wp2_with (go_at_call 52; (with_reducible refine (Ref02.less_any (.slice A0 n0 c0) (.slice A1 n1 c1) xs ys _ hR0.out hR1.out (by have := LL.out; omega) (by have := LL.out; omega)).mono ?_); rw [HC.out]; rintro e w1 ⟨rfl, hw1⟩; obtain ⟨⟨k0, k1, k2, k3⟩, _⟩ := hold.out _ hw1)
  have hh : Hid (∀ W : World, (W.cell? ⟨w.heap.size, 0, none⟩ = some (.bool na) ∧ W.cell? ⟨w.heap.size, 1, none⟩ = some (.slice A0 n0 c0) ∧ W.cell? ⟨w.heap.size + 1, 0, none⟩ = some (.bool nb) ∧ W.cell? ⟨w.heap.size + 1, 1, none⟩ = some (.slice A1 n1 c1)) ∧ Since w W → Since w W) := fun W h => h.2
  go_region_held3 (fun W => (W.cell? ⟨w.heap.size, 0, none⟩ = some (.bool na) ∧ W.cell? ⟨w.heap.size, 1, none⟩ = some (.slice A0 n0 c0) ∧ W.cell? ⟨w.heap.size + 1, 0, none⟩ = some (.bool nb) ∧ W.cell? ⟨w.heap.size + 1, 1, none⟩ = some (.slice A1 n1 c1)) ∧ Since w W)
    (first | exact hold.out _ (Since.refl _) | exact hold.out _ (Since.drew (Since.refl _)) | exact hold.out _ (Since.drew ‹Since W0 _›) | exact hold.out _ ‹Since W0 _› | exact ⟨by go_simp, since_set3 ‹Since W0 _›⟩)
    (first
      | (go_at_call 53; go_loud ((with_reducible refine ((Ref02.minus_any (.slice A1 n1 c1) (.slice A0 n0 c0) ys xs _ (H.out.2.since (hh.out _ (by assumption))) (H.out.1.since (hh.out _ (by assumption))) (by have := LL.out; omega) HQ.out HLE.out).mono fun _ _ h => RetRow.sl h).mono ?_)); rintro e x1 ⟨A2, c2, rfl, hr1, hs1⟩; have hK1 := Since.trans (Since.drew hw1) hs1)
      | (go_at_call 50; (with_reducible refine (made_any (.slice A2 (digs (num ys - num xs)).length c2) _ (digs (num ys - num xs)) _ hr1 HL.out).mono ?_); rintro e x2 ⟨rfl, hs2⟩; have hK2 := Since.trans hK1 hs2; have hr2 := hr1.since hs2; obtain ⟨q0, q1, q2, q3⟩ := hk3.out _ hK2))
  go_wp2
  refine bodyPost_ret (v := sv (signB nb (digs (num ys - num xs))) (.slice A2 (digs (num ys - num xs)).length c2)) ?_ rfl ?_
  · simp [results, Tryd.results36, go_sem, q0, q1]
  · exact ⟨_, _, rfl, row_set3 hr2 (hb3.out _ hK2) _ _, since_set3 hK2⟩
set_option maxRecDepth 100000 in
set_option maxHeartbeats 1000000 in
theorem sum_ge_ (A0 A1 : Option Addr) (c0 c1 : Nat) (na nb : Bool) (xs ys : List Nat) (w : World) (hx : Row w (.slice A0 xs.length c0) xs) (hy : Row w (.slice A1 ys.length c1) ys) (lx : xs.length ≤ 1000) (ly : ys.length ≤ 1000) (hs : (na == nb) = false) (hc : lessB xs ys = false) (hl2 : ys.length ≤ xs.length) (hle : num ys ≤ num xs) :
    Calls Tryd.prog 36 #[sv na (.slice A0 xs.length c0), sv nb (.slice A1 ys.length c1)] w (RetS (signB na (digs (num xs - num ys))) (digs (num xs - num ys)) w) := by
  have H := Lib.hid (And.intro hx hy)
  have HL := Lib.hid (show (digs (num xs - num ys)).length ≤ 1000000 by exact Nat.le_trans (digs_len_mono (Nat.sub_le _ _)) (Nat.le_trans (digs_len_num hx.dig) (by omega)))
  have LL := Lib.hid (And.intro lx ly)
  have HE := Lib.hid (And.intro lx ly)
  have HC := Lib.hid hc
  have HQ := Lib.hid hl2
  have HLE := Lib.hid hle
  clear hx hy lx ly hc hl2 hle
  obtain ⟨n0, hn0⟩ : ∃ n, n = xs.length := ⟨_, rfl⟩
  obtain ⟨n1, hn1⟩ : ∃ n, n = ys.length := ⟨_, rfl⟩
  rw [← hn0] at H ⊢
  rw [← hn1] at H ⊢
  clear hn0 hn1
  obtain ⟨W0, hW0⟩ : ∃ W0, W0 = ((w.alloc (.cells #[.bool na, .slice A0 n0 c0] 65)).alloc (.cells #[.bool nb, .slice A1 n1 c1] 65)).alloc (.cells #[.bool false, .slice none 0 0] 65) := ⟨_, rfl⟩
  have HW := Lib.hid hW0
  have hold : Hid (∀ W : World, Since W0 W → (W.cell? ⟨w.heap.size, 0, none⟩ = some (.bool na) ∧ W.cell? ⟨w.heap.size, 1, none⟩ = some (.slice A0 n0 c0) ∧ W.cell? ⟨w.heap.size + 1, 0, none⟩ = some (.bool nb) ∧ W.cell? ⟨w.heap.size + 1, 1, none⟩ = some (.slice A1 n1 c1)) ∧ Since w W) := fun W h => ⟨hold2 (hW0 ▸ h), by rw [hW0] at h; exact ((((Since.refl w).alloc _).alloc _).alloc _).trans h⟩
  have hk3 : Hid (∀ W : World, Since W0 W → W.cell? ⟨w.heap.size + 1 + 1, 0, none⟩ = some (.bool false) ∧ W.cell? ⟨w.heap.size + 1 + 1, 1, none⟩ = some (.slice none 0 0) ∧ W.frozen? ⟨w.heap.size + 1 + 1, 0, none⟩ = false ∧ W.frozen? ⟨w.heap.size + 1 + 1, 1, none⟩ = false) := fun W h => keep3 (hW0 ▸ h)
  have hb3 : Hid (∀ W : World, Since W0 W → Since (((w.alloc (.cells #[.bool na, .slice A0 n0 c0] 65)).alloc (.cells #[.bool nb, .slice A1 n1 c1] 65)).alloc (.cells #[.bool false, .slice none 0 0] 65)) W) := fun W h => hW0 ▸ h
  have since_set3 : ∀ {W : World} {u0 u1 : Value}, Since W0 W → Since w ((W.setCell ⟨w.heap.size + 1 + 1, 0, none⟩ u0).setCell ⟨w.heap.size + 1 + 1, 1, none⟩ u1) := fun h => by rw [hW0] at h; exact ((((((Since.refl w).alloc _).alloc _).alloc _).trans h).set (by show w.heap.size ≤ w.heap.size + 1 + 1; omega) _).set (by show w.heap.size ≤ w.heap.size + 1 + 1; omega) _
  have hS0 : Since w W0 := by rw [hW0]; exact (((Since.refl w).alloc _).alloc _).alloc _
  clear hW0
  have hR0 := Lib.hid (H.out.1.since hS0)
  have hR1 := Lib.hid (H.out.2.since hS0)
  go_enter Tryd.func36, Tryd.ntmps36
  go_wp2_with fail
  rw [← HW.out]
  go_wp2_with (go_at_call 52; (with_reducible refine (Ref02.less_any (.slice A0 n0 c0) (.slice A1 n1 c1) xs ys _ hR0.out hR1.out (by have := LL.out; omega) (by have := LL.out; omega)).mono ?_); rw [HC.out]; rintro e w1 ⟨rfl, hw1⟩; obtain ⟨⟨k0, k1, k2, k3⟩, _⟩ := hold.out _ hw1)
  have hh : Hid (∀ W : World, (W.cell? ⟨w.heap.size, 0, none⟩ = some (.bool na) ∧ W.cell? ⟨w.heap.size, 1, none⟩ = some (.slice A0 n0 c0) ∧ W.cell? ⟨w.heap.size + 1, 0, none⟩ = some (.bool nb) ∧ W.cell? ⟨w.heap.size + 1, 1, none⟩ = some (.slice A1 n1 c1)) ∧ Since w W → Since w W) := fun W h => h.2
  go_region_held3 (fun W => (W.cell? ⟨w.heap.size, 0, none⟩ = some (.bool na) ∧ W.cell? ⟨w.heap.size, 1, none⟩ = some (.slice A0 n0 c0) ∧ W.cell? ⟨w.heap.size + 1, 0, none⟩ = some (.bool nb) ∧ W.cell? ⟨w.heap.size + 1, 1, none⟩ = some (.slice A1 n1 c1)) ∧ Since w W)
    (first | exact hold.out _ (Since.refl _) | exact hold.out _ (Since.drew (Since.refl _)) | exact hold.out _ (Since.drew ‹Since W0 _›) | exact hold.out _ ‹Since W0 _› | exact ⟨by go_simp, since_set3 ‹Since W0 _›⟩)
    (first
      | (go_at_call 53; go_loud ((with_reducible refine ((Ref02.minus_any (.slice A0 n0 c0) (.slice A1 n1 c1) xs ys _ (H.out.1.since (hh.out _ (by assumption))) (H.out.2.since (hh.out _ (by assumption))) (by have := LL.out; omega) HQ.out HLE.out).mono fun _ _ h => RetRow.sl h).mono ?_)); rintro e x1 ⟨A2, c2, rfl, hr1, hs1⟩; have hK1 := Since.trans (Since.drew hw1) hs1)
      | (go_at_call 50; (with_reducible refine (made_any (.slice A2 (digs (num xs - num ys)).length c2) _ (digs (num xs - num ys)) _ hr1 HL.out).mono ?_); rintro e x2 ⟨rfl, hs2⟩; have hK2 := Since.trans hK1 hs2; have hr2 := hr1.since hs2; obtain ⟨q0, q1, q2, q3⟩ := hk3.out _ hK2))
  go_wp2
  refine bodyPost_ret (v := sv (signB na (digs (num xs - num ys))) (.slice A2 (digs (num xs - num ys)).length c2)) ?_ rfl ?_
  · simp [results, Tryd.results36, go_sem, q0, q1]
  · exact ⟨_, _, rfl, row_set3 hr2 (hb3.out _ hK2) _ _, since_set3 hK2⟩
end Go.Proofs.YtbkkalmdjcpgoaaDoor.Ref03
