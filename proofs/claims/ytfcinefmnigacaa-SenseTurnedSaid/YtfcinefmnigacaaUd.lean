/- Layer 11 (sense): the landed model's hasCounts, hasSigns, booleans. -/
import Derived.Test.YtfcinefmnigacaaUb
namespace Go.Proofs.Ytfcinefmnigacaa.Sn
open Go.RowKit
set_option linter.unusedVariables false
set_option linter.unusedSimpArgs false
open Go.Proofs.Ytfcinefmnigacaa.Dig Go.Proofs.Ytfcinefmnigacaa.Lx Go.Proofs.Ytfcinefmnigacaa.Tk Go.Proofs.Ytfcinefmnigacaa.Ti Go.Proofs.Ytfcinefmnigacaa.Zs Go.Proofs.Ytfcinefmnigacaa.Tr

theorem ne_lit {k : Int} (h : k < 1 ∨ 19 < k) (n : Int) (h1 : 1 ≤ n) (h2 : n ≤ 19) : (k == n) = false := by rw [beq_eq_false_iff_ne]; omega
theorem cast_eq (n m : Nat) : ((n : Int) == (m : Int)) = decide (n = m) := by
  by_cases h : n = m
  · subst h; simp
  · rw [decide_eq_false h, beq_eq_false_iff_ne]; omega
set_option maxRecDepth 20000 in
set_option maxHeartbeats 8000000 in
theorem hasCounts_any (k : Int) (X Y : Option Addr) (n xc m yc : Nat) (c : Int) (w : World) (hn : n ≤ 1100000) (hm : m ≤ 1100000) :
    Calls Try.prog 65 #[.agg #[.int .i64 k, .slice X n xc, .slice Y m yc, .int .i64 c]] w (RetT (shp k n m) w) := by
  have ka := Lib.hid (since_alloc w (.cells #[.int .i64 k, .slice X n xc, .slice Y m yc, .int .i64 c] 25))
  rcases kd_or k with hk | hk
  · cases hk
    all_goals go_enter Try.func65, Try.ntmps65
    all_goals go_wp2
    all_goals go_region
    all_goals go_wp2
    all_goals go_ret
    all_goals refine RetT.of ?_ (by first | exact ka.out | exact Since.drew ka.out)
    all_goals (rw [Bool.eq_iff_iff]; simp [shp]; try omega)
  · rw [shp_out hk]
    have ne := ne_lit hk
    have n1 := ne 1 (by decide) (by decide)
    have n2 := ne 2 (by decide) (by decide)
    have n3 := ne 3 (by decide) (by decide)
    have n4 := ne 4 (by decide) (by decide)
    have n5 := ne 5 (by decide) (by decide)
    have n6 := ne 6 (by decide) (by decide)
    have n7 := ne 7 (by decide) (by decide)
    have n8 := ne 8 (by decide) (by decide)
    have n9 := ne 9 (by decide) (by decide)
    have n10 := ne 10 (by decide) (by decide)
    have n11 := ne 11 (by decide) (by decide)
    have n12 := ne 12 (by decide) (by decide)
    have n13 := ne 13 (by decide) (by decide)
    have n14 := ne 14 (by decide) (by decide)
    have n15 := ne 15 (by decide) (by decide)
    have n16 := ne 16 (by decide) (by decide)
    have n17 := ne 17 (by decide) (by decide)
    have n18 := ne 18 (by decide) (by decide)
    have n19 := ne 19 (by decide) (by decide)
    clear ne hk
    go_enter Try.func65, Try.ntmps65
    go_wp2
    go_region
    all_goals go_wp2
    all_goals go_ret
    all_goals exact ⟨rfl, by first | exact ka.out | exact Since.drew ka.out⟩
theorem okE_at (k n : Int) : okE k n = !(decide (k = 11) && decide (n ≠ 1) && decide (n ≠ -1) || decide (k = 19) && decide (n < 0)) := rfl
set_option maxRecDepth 20000 in
set_option maxHeartbeats 2000000 in
theorem hasSigns_any (k : Int) (vx va : Value) (a : List Int) (c : Int) (w : World) (hv : ∃ X n xc, vx = .slice X n xc) (h : Sl 1 QI w va a) (hl : a.length ≤ 1100000) :
    Calls Try.prog 66 #[.agg #[.int .i64 k, vx, va, .int .i64 c]] w (RetT (sgn k a c) w) := by
  obtain ⟨X, nx, xc, rfl⟩ := hv
  obtain ⟨Y, yc, rfl⟩ := h.form
  have ka := Lib.hid (since_alloc w (.cells #[.int .i64 k, .slice X nx xc, .slice Y a.length yc, .int .i64 c] 25))
  obtain ⟨n, hn⟩ : ∃ n, n = a.length := ⟨_, rfl⟩
  obtain ⟨R, hR⟩ : ∃ R, R = sgn k a c := ⟨_, rfl⟩
  rw [← hR]
  rw [← hn] at h hl ka ⊢
  obtain ⟨E, hE⟩ : ∃ E, E = (decide (k ≠ 19) || decide (0 ≤ c)) := ⟨_, rfl⟩
  have H := Lib.hid h
  have HN := Lib.hid hn
  have HR := Lib.hid (show (a.all (okE k) && E) = R by rw [hR, hE, sgn])
  have HE0 := Lib.hid hE
  have BX := Lib.hid (fun W (kk : Since (w.alloc (.cells #[.int .i64 k, .slice X nx xc, .slice Y n yc, .int .i64 c] 25)) W) => (Bx.fresh w #[.int .i64 k, .slice X nx xc, .slice Y n yc, .int .i64 c] 25).since kk)
  clear h hn hR hE
  go_enter Try.func66, Try.ntmps66
  go_wp2
  obtain ⟨W0, hW0⟩ : ∃ W0, W0 = w.alloc (.cells #[.int .i64 k, .slice X nx xc, .slice Y n yc, .int .i64 c] 25) := ⟨_, rfl⟩
  rw [← hW0]
  rw [← hW0] at ka BX
  clear hW0
  go_loopw [8] (fun i wr => ∃ j : Nat, i = .int .i64 (j : Int) ∧ j ≤ n ∧ Hid (((a.drop j).all (okE k) && E) = R) ∧ Hid (Since W0 wr)) (fun i _ => n - (intOf i).toNat)
  case atStart => exact ⟨0, rfl, Nat.zero_le _, HR.out, Since.refl _⟩
  case round =>
    obtain ⟨j, rfl, hk, HE, HW⟩ := hrel
    obtain ⟨b0, b1, b2, b3⟩ : wr.cell? ⟨w.heap.size, 0, none⟩ = some (.int .i64 k) ∧ wr.cell? ⟨w.heap.size, 1, none⟩ = some (.slice X nx xc) ∧ wr.cell? ⟨w.heap.size, 2, none⟩ = some (.slice Y n yc) ∧ wr.cell? ⟨w.heap.size, 3, none⟩ = some (.int .i64 c) := ⟨(BX.out _ HW.out).cell 0, (BX.out _ HW.out).cell 1, (BX.out _ HW.out).cell 2, (BX.out _ HW.out).cell 3⟩
    by_cases hkn : j < n
    · have hkl : j < a.length := by have := HN.out; omega
      obtain ⟨g, o, rfl, e0⟩ := elI (H.out.since stI (ka.out.trans HW.out)) hkl
      have hst := HE.out
      rw [dropI hkl, List.all_cons] at hst
      generalize a[j] = y at *
      have ST := Lib.hid hst
      clear hst hkl HE
      have fin : okE k y = true → Hid (((a.drop (j + 1)).all (okE k) && E) = R) := fun hy => Lib.hid (by have := ST.out; rw [hy, Bool.true_and] at this; exact this)
      have bad : okE k y = false → Hid (false = R) := fun hy => Lib.hid (by have := ST.out; rw [hy, Bool.false_and, Bool.false_and] at this; exact this)
      have FIN := Lib.hid fin
      have BAD := Lib.hid bad
      clear fin bad
      by_cases c11 : k = 11
      · subst c11
        by_cases y1 : y = 1
        · have HE := FIN.out (by subst y1; rfl)
          have z1 : (y != 1) = false := by subst y1; rfl
          go_wp2
          go_roundw
          case rel => exact ⟨j + 1, by go_num, by omega, HE.out, HW.out⟩
          case measure => simp [intOf]; omega
        · have z1 : (y != 1) = true := by rw [bne_iff_ne]; exact y1
          by_cases y2 : y = -1
          · have HE := FIN.out (by subst y2; rfl)
            have z2 : (y != -1) = false := by subst y2; rfl
            go_wp2
            go_roundw
            case rel => exact ⟨j + 1, by go_num, by omega, HE.out, HW.out⟩
            case measure => simp [intOf]; omega
          · have z2 : (y != -1) = true := by rw [bne_iff_ne]; exact y2
            have HE := BAD.out (by simp [okE, y1, y2])
            go_wp2
            go_ret
            exact .of HE.out (ka.out.trans HW.out)
      · have k11 : (k == 11) = false := by rw [beq_eq_false_iff_ne]; exact c11
        by_cases c19 : k = 19
        · subst c19
          by_cases y3 : y < 0
          · have HE := BAD.out (by simp [okE, y3])
            go_wp2
            go_ret
            exact .of HE.out (ka.out.trans HW.out)
          · have HE := FIN.out (by simp [okE]; omega)
            go_wp2
            go_roundw
            case rel => exact ⟨j + 1, by go_num, by omega, HE.out, HW.out⟩
            case measure => simp [intOf]; omega
        · have k19 : (k == 19) = false := by rw [beq_eq_false_iff_ne]; exact c19
          have HE := FIN.out (by simp [okE, c11, c19])
          go_wp2
          go_roundw
          case rel => exact ⟨j + 1, by go_num, by omega, HE.out, HW.out⟩
          case measure => simp [intOf]; omega
    · obtain rfl : j = n := by omega
      have HE2 := Lib.hid (show E = R by rw [← HE.out, List.drop_of_length_le (by have := HN.out; omega)]; rfl)
      by_cases c19 : k = 19
      · subst c19
        have z : ((19 : Int) != 19) = false := by decide
        by_cases c0 : c ≥ 0
        · have e := Lib.hid (show true = R by rw [← HE2.out, HE0.out]; simp; omega)
          go_wp2
          go_ret
          exact .of e.out (ka.out.trans HW.out)
        · have e := Lib.hid (show false = R by rw [← HE2.out, HE0.out]; simp; omega)
          go_wp2
          go_ret
          exact .of e.out (ka.out.trans HW.out)
      · have k19 : (k != 19) = true := by rw [bne_iff_ne]; exact c19
        have e := Lib.hid (show true = R by rw [← HE2.out, HE0.out]; simp [c19])
        go_wp2
        go_ret
        exact .of e.out (ka.out.trans HW.out)
theorem slDropI {w : World} {b : Option Addr} {n c : Nat} {xs : List Int} (h : Sl 1 QI w (.slice b n c) xs) (k : Nat) (hk : k < n) : ∃ g o, b = some ⟨g, o, none⟩ ∧ Sl 1 QI w (.slice (some ⟨g, o + k, none⟩) (n - k) (c - k)) (xs.drop k) := by
  obtain ⟨A, c', h1, h2, h3⟩ := h
  injection h1 with e0 e1 e2
  subst e0 e1 e2
  obtain ⟨g, o, rfl, h5⟩ := h3 (by omega)
  refine ⟨g, o, rfl, some ⟨g, o + k, none⟩, c - k, by rw [List.length_drop], by rw [List.length_drop]; omega, fun _ => ⟨g, o + k, rfl, fun i x hx => ?_⟩⟩
  rw [List.getElem?_drop] at hx
  obtain ⟨u, h6, h7, h8⟩ := h5 _ _ hx
  refine ⟨u, h6, h7, fun j y hy => ?_⟩
  have := h8 j y hy
  rw [show o + k + i * 1 + j = o + (k + i) * 1 + j by omega]; exact this
theorem bools_tail {α : Type} {k : Int} (h : k = 4 ∨ k = 5 ∨ k = 6) (x : List α) : bools k x = x.drop (x.length - 1) := if_pos h
theorem bools_all {α : Type} {k : Int} (h : k = 11 ∨ k = 12 ∨ k = 13 ∨ k = 14) (x : List α) : bools k x = x := by rw [bools, if_neg (by omega), if_pos h]
theorem bools_none {α : Type} {k : Int} (h : ¬ (k = 4 ∨ k = 5 ∨ k = 6)) (h2 : ¬ (k = 11 ∨ k = 12 ∨ k = 13 ∨ k = 14)) (x : List α) : bools k x = [] := by rw [bools, if_neg h, if_neg h2]
set_option maxRecDepth 20000 in
set_option maxHeartbeats 2000000 in
theorem booleans_any (k : Int) (vx va : Value) (x : List Int) (c : Int) (w : World) (hv : ∃ Y m yc, va = .slice Y m yc) (h : Sl 1 QI w vx x) (hp : k = 4 ∨ k = 5 ∨ k = 6 → 0 < x.length) (hl : x.length ≤ 1100000) :
    Calls Try.prog 70 #[.agg #[.int .i64 k, vx, va, .int .i64 c]] w (fun e w' => ∃ B n' c', e = .returned (.slice B n' c') ∧ n' = (bools k x).length ∧ Sl 1 QI w' (.slice B n' c') (bools k x) ∧ Since w w') := by
  obtain ⟨Y, m, yc, rfl⟩ := hv
  obtain ⟨X, xc, rfl⟩ := h.form
  obtain ⟨n, hn⟩ : ∃ n, n = x.length := ⟨_, rfl⟩
  rw [← hn] at h hl hp ⊢
  have ka := Lib.hid (since_alloc w (.cells #[.int .i64 k, .slice X n xc, .slice Y m yc, .int .i64 c] 25))
  have H := Lib.hid h
  have HN := Lib.hid hn
  by_cases ct : k = 4 ∨ k = 5 ∨ k = 6
  · obtain ⟨g, o, rfl, hs⟩ := slDropI h (n - 1) (by have := hp ct; omega)
    obtain ⟨j, hj⟩ : ∃ j, n = j + 1 := ⟨n - 1, by have := hp ct; omega⟩
    have hc := h.at_.2
    rw [← hn] at hc
    have HS := Lib.hid (show Sl 1 QI w (.slice (some ⟨g, o + j, none⟩) 1 (xc - j)) (bools k x) by
      rw [bools_tail ct, ← hn, hj, Nat.add_sub_cancel]
      rw [hj, Nat.add_sub_cancel, Nat.add_sub_cancel_left] at hs; exact hs)
    have HL := Lib.hid (show 1 = (bools k x).length by rw [bools_tail ct, List.length_drop, ← hn]; omega)
    clear hs h hn hp
    have ei : ((j + 1 : Nat) : Int) - 1 = (j : Int) := by omega
    subst hj
    rcases ct with rfl | rfl | rfl
    all_goals go_enter Try.func70, Try.ntmps70
    all_goals go_wp2
    all_goals go_ret
    all_goals exact ⟨_, _, _, rfl, HL.out, HS.out.since stI ka.out, ka.out⟩
  · by_cases ca : k = 11 ∨ k = 12 ∨ k = 13 ∨ k = 14
    · have HS := Lib.hid (show Sl 1 QI w (.slice X n xc) (bools k x) by rw [bools_all ca]; exact h)
      have HL := Lib.hid (show n = (bools k x).length by rw [bools_all ca]; exact hn)
      clear h hn hp ct
      rcases ca with rfl | rfl | rfl | rfl
      all_goals go_enter Try.func70, Try.ntmps70
      all_goals go_wp2
      all_goals go_ret
      all_goals exact ⟨_, _, _, rfl, HL.out, HS.out.since stI ka.out, ka.out⟩
    · rw [bools_none ct ca]
      have nn : ∀ j : Int, (j = 4 ∨ j = 5 ∨ j = 6 ∨ j = 11 ∨ j = 12 ∨ j = 13 ∨ j = 14) → (k == j) = false := fun j hj => by rw [beq_eq_false_iff_ne]; omega
      have n4 := nn 4 (by decide)
      have n5 := nn 5 (by decide)
      have n6 := nn 6 (by decide)
      have n11 := nn 11 (by decide)
      have n12 := nn 12 (by decide)
      have n13 := nn 13 (by decide)
      have n14 := nn 14 (by decide)
      clear nn ct ca h hn hp
      go_enter Try.func70, Try.ntmps70
      go_wp2
      go_ret
      exact ⟨_, _, _, rfl, rfl, Sl.nil _ _ _, ka.out⟩
end Go.Proofs.Ytfcinefmnigacaa.Sn
