/- Layer 11 (sense): constraints and models as they lie in memory; what the landed model tells of numbers, domain -/
import Derived.Test.YtilgmkhcpmegjaaQah
namespace Go.Proofs.Ytilgmkhcpmegjaa.Sn
open Go.RowKit
set_option linter.unusedVariables false
set_option linter.unusedSimpArgs false
open Go.Proofs.Ytilgmkhcpmegjaa.Dig Go.Proofs.Ytilgmkhcpmegjaa.Lx Go.Proofs.Ytilgmkhcpmegjaa.Tk Go.Proofs.Ytilgmkhcpmegjaa.Ti Go.Proofs.Ytilgmkhcpmegjaa.Zs Go.Proofs.Ytilgmkhcpmegjaa.Tr
/-- a constraint in four cells -/
def QC (w : World) (c : Cn) (u : List Value) : Prop := ∃ vx va, u = [.int .i64 c.k, vx, va, .int .i64 c.c] ∧ Sl 1 QI w vx c.x ∧ Sl 1 QI w va c.a
theorem stC : St QC := fun w w' x u ⟨a, b, h1, h2, h3⟩ k => ⟨a, b, h1, h2.since stI k, h3.since stI k⟩
def ConAt (w : World) (v : Value) (c : Cn) : Prop := ∃ vx va, v = .agg #[.int .i64 c.k, vx, va, .int .i64 c.c] ∧ Sl 1 QI w vx c.x ∧ Sl 1 QI w va c.a
theorem ConAt.since {w w' : World} {v : Value} {c : Cn} (h : ConAt w v c) (k : Since w w') : ConAt w' v c := by
  obtain ⟨a, b, h1, h2, h3⟩ := h
  exact ⟨a, b, h1, h2.since stI k, h3.since stI k⟩
def ModAt (w : World) (v : Value) (m : Md) : Prop := ∃ vd vc, v = .agg #[vd, vc, .int .i64 m.ask, .int .i64 m.goal] ∧ Sl 1 QD w vd m.ds ∧ Sl 4 QC w vc m.cs
theorem ModAt.since {w w' : World} {v : Value} {m : Md} (h : ModAt w v m) (k : Since w w') : ModAt w' v m := by
  obtain ⟨a, b, h1, h2, h3⟩ := h
  exact ⟨a, b, h1, h2.since stD k, h3.since stC k⟩
theorem elC {w : World} {A : Option Addr} {n c : Nat} {xs : List Cn} (h : Sl 4 QC w (.slice A n c) xs) {i : Nat} (hi : i < xs.length) :
    ∃ b o X xc Y yc, A = some ⟨b, o, none⟩ ∧ Sl 1 QI w (.slice X xs[i].x.length xc) xs[i].x ∧ Sl 1 QI w (.slice Y xs[i].a.length yc) xs[i].a ∧ w.cell? ⟨b, o + i * 4, none⟩ = some (.int .i64 xs[i].k) ∧ w.cell? ⟨b, o + i * 4 + 1, none⟩ = some (.slice X xs[i].x.length xc) ∧ w.cell? ⟨b, o + i * 4 + 2, none⟩ = some (.slice Y xs[i].a.length yc) ∧ w.cell? ⟨b, o + i * 4 + 3, none⟩ = some (.int .i64 xs[i].c) := by
  obtain ⟨b, o, u, h1, ⟨vx, va, h2, h5, h6⟩, h3, h4⟩ := h.el hi
  subst h2
  obtain ⟨X, xc, rfl⟩ := h5.form
  obtain ⟨Y, yc, rfl⟩ := h6.form
  exact ⟨b, o, X, xc, Y, yc, h1, h5, h6, h4 0 _ rfl, h4 1 _ rfl, h4 2 _ rfl, h4 3 _ rfl⟩
/-- of 64 bits -/
def BdI (l : List Int) : Prop := ∀ n ∈ l, fits n
def BdC (c : Cn) : Prop := fits c.k ∧ BdI c.x ∧ BdI c.a ∧ fits c.c
theorem dropI {l : List Int} {k : Nat} (h : k < l.length) : l.drop k = l[k] :: l.drop (k + 1) := List.drop_eq_getElem_cons h
theorem within_iff' (x : Int) : within x = true ↔ -1048576 ≤ x ∧ x ≤ 1048576 := by simp only [within, mx, Bool.and_eq_true, decide_eq_true_eq]
theorem isValue_any (x : Int) (w : World) : Calls Try.prog 218 #[.int .i64 x] w fun e w' => e = .returned (.bool (within x)) ∧ w' = w := by
  by_cases c1 : x ≥ -1048576
  · by_cases c2 : x ≤ 1048576
    · have e : within x = true := by simp only [within, mx, Bool.and_eq_true, decide_eq_true_eq]; omega
      rw [e]
      go_enter Try.func218, Try.ntmps218
      go_wp2
      go_ret
      exact ⟨rfl, rfl⟩
    · have e : within x = false := by simp only [within, mx, Bool.and_eq_false_iff, decide_eq_false_iff_not]; omega
      rw [e]
      go_enter Try.func218, Try.ntmps218
      go_wp2
      go_ret
      exact ⟨rfl, rfl⟩
  · have e : within x = false := by simp only [within, mx, Bool.and_eq_false_iff, decide_eq_false_iff_not]; omega
    rw [e]
    go_enter Try.func218, Try.ntmps218
    go_wp2
    go_ret
    exact ⟨rfl, rfl⟩
set_option maxRecDepth 20000 in
set_option maxHeartbeats 1000000 in
theorem areValues_any (v : Value) (l : List Int) (w : World) (h : Sl 1 QI w v l) (hl : l.length ≤ 1100000) :
    Calls Try.prog 221 #[v] w (RetT (l.all within) w) := by
  obtain ⟨A, c, rfl⟩ := h.form
  obtain ⟨n, hn⟩ : ∃ n, n = l.length := ⟨_, rfl⟩
  obtain ⟨R, hR⟩ : ∃ R, R = l.all within := ⟨_, rfl⟩
  rw [← hR]
  rw [← hn] at h hl ⊢
  have H := Lib.hid h
  have HN := Lib.hid hn
  have HR := Lib.hid hR
  clear h hn hR
  go_enter Try.func221, Try.ntmps221
  go_wp2
  go_loopw [7] (fun i wr => ∃ k : Nat, i = .int .i64 (k : Int) ∧ k ≤ n ∧ Hid ((l.drop k).all within = R) ∧ Hid (Since w wr)) (fun i _ => n - (intOf i).toNat)
  case atStart => exact ⟨0, rfl, Nat.zero_le _, HR.out.symm, Since.refl _⟩
  case round =>
    obtain ⟨k, rfl, hk, HE, HW⟩ := hrel
    by_cases hkn : k < n
    · have hkl : k < l.length := by have := HN.out; omega
      obtain ⟨g, o, rfl, e0⟩ := elI (H.out.since stI HW.out) hkl
      have hst := HE.out
      rw [dropI hkl, List.all_cons] at hst
      generalize l[k] = y at *
      have ST := Lib.hid hst
      have IV := Lib.hid (fun b (hb : within y = b) W => by have := isValue_any y W; rw [hb] at this; exact this)
      clear hst hkl HE
      cases hy : within y with
      | true =>
        have HE := Lib.hid (show (l.drop (k + 1)).all within = R by have := ST.out; rw [hy, Bool.true_and] at this; exact this)
        have IW := Lib.hid (IV.out true hy)
        clear hy
        go_wp2_with (go_at_call 218; (with_reducible refine (IW.out _).mono ?_); rintro e w1 ⟨rfl, rfl⟩)
        go_roundw
        case rel => exact ⟨k + 1, by go_num, by omega, HE.out, HW.out⟩
        case measure => simp [intOf]; omega
      | false =>
        have HE := Lib.hid (show false = R by have := ST.out; rw [hy, Bool.false_and] at this; exact this)
        have IW := Lib.hid (IV.out false hy)
        clear hy
        go_wp2_with (go_at_call 218; (with_reducible refine (IW.out _).mono ?_); rintro e w1 ⟨rfl, rfl⟩)
        go_ret
        exact .of HE.out HW.out
    · obtain rfl : k = n := by omega
      have HE2 := Lib.hid (show true = R by rw [← HE.out, List.drop_of_length_le (by have := HN.out; omega)]; rfl)
      go_wp2
      go_ret
      exact .of HE2.out HW.out
theorem takesNumber_any (k : Int) (w : World) : Calls Try.prog 222 #[.int .i64 k] w fun e w' => e = .returned (.bool (tak k)) ∧ w' = w := by
  by_cases c1 : k ≥ 1
  · by_cases c2 : k ≤ 6
    · have e : tak k = true := by simp only [tak, Bool.or_eq_true, decide_eq_true_eq]; omega
      rw [e]
      go_enter Try.func222, Try.ntmps222
      go_wp2
      go_ret
      exact ⟨rfl, rfl⟩
    · by_cases c3 : k = 19
      · subst c3
        go_enter Try.func222, Try.ntmps222
        go_wp2
        go_ret
        exact ⟨rfl, rfl⟩
      · have e : tak k = false := by simp only [tak, Bool.or_eq_false_iff, decide_eq_false_iff_not]; omega
        have hz : (k == 19) = false := by rw [beq_eq_false_iff_ne]; exact c3
        rw [e]
        go_enter Try.func222, Try.ntmps222
        go_wp2
        go_ret
        exact ⟨rfl, rfl⟩
  · have e : tak k = false := by simp only [tak, Bool.or_eq_false_iff, decide_eq_false_iff_not]; omega
    have hz : (k == 19) = false := by rw [beq_eq_false_iff_ne]; omega
    rw [e]
    go_enter Try.func222, Try.ntmps222
    go_wp2
    go_ret
    exact ⟨rfl, rfl⟩
theorem isVariable_any (x : Int) (A : Option Addr) (n c : Nat) (w : World) : Calls Try.prog 223 #[.int .i64 x, .slice A n c] w fun e w' => e = .returned (.bool (isV n x)) ∧ w' = w := by
  by_cases c1 : x ≥ 0
  · by_cases c2 : x < n
    · have e : isV n x = true := by simp only [isV, Bool.and_eq_true, decide_eq_true_eq]; omega
      rw [e]
      go_enter Try.func223, Try.ntmps223
      go_wp2
      go_ret
      exact ⟨rfl, rfl⟩
    · have e : isV n x = false := by simp only [isV, Bool.and_eq_false_iff, decide_eq_false_iff_not]; omega
      rw [e]
      go_enter Try.func223, Try.ntmps223
      go_wp2
      go_ret
      exact ⟨rfl, rfl⟩
  · have e : isV n x = false := by simp only [isV, Bool.and_eq_false_iff, decide_eq_false_iff_not]; omega
    rw [e]
    go_enter Try.func223, Try.ntmps223
    go_wp2
    go_ret
    exact ⟨rfl, rfl⟩
/-- the ends of a domain that has some -/
theorem ends_at {w : World} {A : Option Addr} {n c : Nat} {d : List Rn} (h : Sl 2 QR w (.slice A n c) d) (hn : 0 < n) :
    ∃ b o, A = some ⟨b, o, none⟩ ∧ w.cell? ⟨b, o, none⟩ = some (.int .i64 (d.getD 0 (0, 0)).1) ∧ w.cell? ⟨b, o + (n - 1) * 2 + 1, none⟩ = some (.int .i64 (d.getD (d.length - 1) (0, 0)).2) := by
  have e := h.at_.1
  subst e
  obtain ⟨b, o, h1, h2, h3⟩ := elR h (i := 0) (by omega)
  obtain ⟨b', o', h4, h5, h6⟩ := elR h (i := d.length - 1) (by omega)
  rw [h1] at h4
  simp only [Option.some.injEq, Addr.mk.injEq, and_true] at h4
  obtain ⟨rfl, rfl⟩ := h4
  refine ⟨b, o, h1, ?_, ?_⟩
  · have e : d.getD 0 (0, 0) = d[0] := by simp [List.getD, hn]
    rw [e]; simpa using h2
  · have e : d.getD (d.length - 1) (0, 0) = d[d.length - 1] := by
      have : d.length - 1 < d.length := by omega
      simp [List.getD, this]
    rw [e]; exact h6
set_option maxRecDepth 20000 in
set_option maxHeartbeats 1000000 in
theorem isBoolean_any (v : Value) (d : List Rn) (w : World) (h : Sl 2 QR w v d) (hp : 0 < d.length) (hl : d.length ≤ 1100000) :
    Calls Try.prog 225 #[v] w fun e w' => e = .returned (.bool (tru d)) ∧ w' = w := by
  obtain ⟨A, c, rfl⟩ := h.form
  obtain ⟨b, o, rfl, e0, e1⟩ := ends_at h hp
  obtain ⟨n, hn⟩ : ∃ n, n = d.length - 1 := ⟨_, rfl⟩
  have hn2 : d.length = n + 1 := by omega
  have et : tru d = (decide (0 ≤ (d.getD 0 (0, 0)).1) && decide ((d.getD (d.length - 1) (0, 0)).2 ≤ 1)) := by rw [tru, decide_eq_true hp, Bool.true_and]
  rw [et]
  rw [← hn] at e1 ⊢
  rw [hn2] at hl ⊢
  generalize (d.getD 0 (0, 0)).1 = lo at *
  generalize (d.getD n (0, 0)).2 = hi at *
  clear h hp hn hn2 et
  have ei : ((n + 1 : Nat) : Int) - 1 = (n : Int) := by omega
  have e2 : w.cell? ⟨b, o + n * 2 + 1, none⟩ = some (.int .i64 hi) := by simpa using e1
  clear e1
  by_cases c1 : lo ≥ 0
  · by_cases c2 : hi ≤ 1
    · have e : (decide (0 ≤ lo) && decide (hi ≤ 1)) = true := by simp only [Bool.and_eq_true, decide_eq_true_eq]; omega
      rw [e]
      go_enter Try.func225, Try.ntmps225
      go_wp2
      go_ret
      exact ⟨rfl, rfl⟩
    · have e : (decide (0 ≤ lo) && decide (hi ≤ 1)) = false := by simp only [Bool.and_eq_false_iff, decide_eq_false_iff_not]; omega
      rw [e]
      go_enter Try.func225, Try.ntmps225
      go_wp2
      go_ret
      exact ⟨rfl, rfl⟩
  · have e : (decide (0 ≤ lo) && decide (hi ≤ 1)) = false := by simp only [Bool.and_eq_false_iff, decide_eq_false_iff_not]; omega
    rw [e]
    go_enter Try.func225, Try.ntmps225
    go_wp2
    go_ret
    exact ⟨rfl, rfl⟩
end Go.Proofs.Ytilgmkhcpmegjaa.Sn
