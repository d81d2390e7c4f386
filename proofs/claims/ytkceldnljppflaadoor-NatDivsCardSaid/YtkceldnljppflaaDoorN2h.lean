/- What divideByDigit and quotientLength of package nat give back. -/
import Derived.Test.YtkceldnljppflaaDoorN2g
namespace Go.Proofs.YtkceldnljppflaaDoor.Nat02
open Go.RowKit
set_option linter.unusedVariables false
open Go.Proofs.YtkceldnljppflaaDoor.Dig

/-- a quotient written in its place, and what is left -/
def RetDiv (g o n : Nat) (ds xs : List Nat) (d : Nat) (w : World) (e : Ending) (w' : World) : Prop :=
  ∃ outs : List Nat, e = .returned (.int .u32 ((num xs % d : Nat) : Int)) ∧ outs.length = n ∧ IsDig outs ∧ num outs = num xs / d ∧ Blk w' g (splice ds o outs) ∧ w.grownBy w' (some g)

/-- what is to be divided can be read while the quotient is written from above -/
def Reads (g o n : Nat) (ds xs : List Nat) (A : Option Addr) (w : World) : Prop :=
  ∀ wr k outs, k + outs.length = n → Blk wr g (splice ds (o + k) outs) → w.grownBy wr (some g) → ∀ i, i < k → ∃ b p, A = some ⟨b, p, none⟩ ∧ wr.cell? ⟨b, p + i, none⟩ = some (.int .u32 ((xs.getD i 0 : Nat) : Int))

set_option maxRecDepth 100000 in
set_option maxHeartbeats 4000000 in
theorem byDigit_any (g o n c : Nat) (A : Option Addr) (cA : Nat) (ds xs : List Nat) (d : Nat) (w : World) (hg : Blk w g ds) (ho : o + n ≤ ds.length) (hl : ds.length ≤ 100000) (lx : xs.length ≤ 100000)
    (hx : Row w (.slice A xs.length cA) xs) (hn : n = xs.length ∨ (n + 1 = xs.length ∧ xs.getD n 0 < d)) (hd0 : 0 < d) (hd : d < 4294967296) (hr : Reads g o n ds xs A w) :
    Calls Tryd.prog 51 #[.slice (some ⟨g, o, none⟩) n c, .slice A xs.length cA, .int .u32 (d : Int)] w (RetDiv g o n ds xs d w) := by
  have HG := Lib.hid hg
  have HX := Lib.hid hx
  have HRD := Lib.hid hr
  have dx := hx.dig
  obtain ⟨m, hm⟩ : ∃ m, m = xs.length := ⟨_, rfl⟩
  rw [← hm] at lx hn HX ⊢
  have HN := Lib.hid (And.intro hm (And.intro ho hl))
  have HD := Lib.hid dx
  have hnm : n ≤ m := by omega
  have HTOP := Lib.hid hn
  have htop : n < m → ∃ b p, A = some ⟨b, p, none⟩ ∧ w.cell? ⟨b, p + n, none⟩ = some (.int .u32 ((xs.getD n 0 : Nat) : Int)) := fun h => by
    obtain ⟨_, A', c', e, hc, _⟩ := HX.out
    injection e with e1 e2 e3
    obtain ⟨b, p, e4, hcc⟩ := hc (by omega)
    exact ⟨b, p, by rw [e1, e4], hcc n (by omega)⟩
  have hfin : ∀ os L, L < d → num xs = d * num os + L → num os = num xs / d ∧ L = num xs % d := fun os L hL h => by
    rw [h]
    exact ⟨by rw [Nat.mul_add_div hd0, Nat.div_eq_of_lt hL, Nat.add_zero], by rw [Nat.mul_add_mod, Nat.mod_eq_of_lt hL]⟩
  have HF := Lib.hid hfin
  clear hg hx hr dx hm ho hl hfin
  have hround : Hid True := trivial
  rcases hn with hn | hn
  · have hle : ¬ n < m := by omega
    clear htop hn
    go_enter Tryd.func51, Tryd.ntmps51
    go_wp2
    go_loopw [7, 8] (fun l i wr => ∃ (k L : Nat) (os : List Nat), k ≤ n ∧ i = .int .i64 ((k : Int) - 1) ∧ l = .int .u32 L ∧ L < d ∧ Hid (IsDig os ∧ k + os.length = n ∧ num (xs.drop k) = d * num os + L) ∧ Hid (Blk wr g (splice ds (o + k) os) ∧ w.grownBy wr (some g))) (fun _ i _ => (intOf i + 1).toNat)
    case atStart =>
      refine ⟨n, 0, [], Nat.le_refl _, by go_num, rfl, hd0, ⟨isDig_nil, by simp, ?_⟩, by rw [splice_nil]; exact HG.out, only_refl _ _⟩
      have hN := HN.out
      rw [List.drop_of_length_le (by have := HTOP.out; omega)]; rfl
    case round =>
      obtain ⟨k, L, os, hk, rfl, rfl, hL, hv, hb⟩ := hrel
      rcases k with _ | j
      · have h3 := hv.out.2.2
        rw [List.drop_zero] at h3
        obtain ⟨e1, e2⟩ := HF.out os L hL h3
        have HE := Lib.hid (And.intro e1 e2)
        clear h3 e1 e2
        go_wp2
        go_ret
        exact ⟨os, by rw [← HE.out.2]; rfl, by have := hv.out.2.1; omega, hv.out.1, HE.out.1, hb.out.1, hb.out.2⟩
      · have e : ((j + 1 : Nat) : Int) - 1 = (j : Int) := by omega
        rw [e]
        clear e
        have hN := HN.out
        have hj : j < n := by omega
        obtain ⟨b, p, rfl, hcell⟩ := HRD.out wr (j + 1) os hv.out.2.1 hb.out.1 hb.out.2 j (by omega)
        have hx1 := getD_lt HD.out j
        obtain ⟨s1, s2, s3⟩ := byDigit_step hL hx1 hv.out.2.2
        have hlen : (splice ds (o + (j + 1)) os).length = ds.length := by rw [splice_len (by have := hv.out.2.1; omega)]
        have g1 := hb.out.1.cell (i := o + j) (by omega)
        have g2 := hb.out.1.frozen (o + j)
        obtain ⟨x, hx⟩ : ∃ d, d = xs.getD j 0 := ⟨_, rfl⟩
        rw [← hx] at hcell hx1 s1 s2 s3
        obtain ⟨q, hq⟩ : ∃ s, s = (L * 4294967296 + x) / d := ⟨_, rfl⟩
        obtain ⟨r, hrr⟩ : ∃ s, s = (L * 4294967296 + x) % d := ⟨_, rfl⟩
        have HA := Lib.hid fun W => Bits.div32 L x d q r W hx1 hd hL hq hrr
        rw [← hq] at s2
        rw [← hq, ← hrr] at s1
        rw [← hrr] at s3
        have hset := hb.out.1.set (i := o + j) (d := q) (by omega) s2
        have e1 := splice_set_down (ds := ds) (j := o + j) (d := q) (outs := os) (by omega)
        rw [← Nat.add_assoc] at hset
        rw [e1] at hset
        obtain ⟨z, hz⟩ : ∃ d, d = (splice ds (o + (j + 1)) os).getD (o + j) 0 := ⟨_, rfl⟩
        rw [← hz] at g1
        have HS := Lib.hid (And.intro s1 (And.intro hset (only_set (i := o + j) hb.out.2 (.int .u32 (q : Int)))))
        clear hx hq hrr s1 hset e1 hz hlen hN
        go_wp2_with (go_at_call 63; (with_reducible refine (HA.out _).mono ?_); rintro e w1 ⟨rfl, nn, rfl⟩)
        go_roundw
        case rel => exact ⟨j, r, q :: os, by omega, rfl, rfl, s3, ⟨isDig_cons s2 hv.out.1, by have := hv.out.2.1; simp; omega, HS.out.1⟩, HS.out.2.1, only_set (only_drewN hb.out.2 nn) _⟩
        case measure => simp [intOf] <;> omega
  · obtain ⟨hn1, hn2⟩ := hn
    have hle : n < m := by omega
    obtain ⟨b0, p0, rfl, hc0⟩ := htop hle
    have hm1 : (m : Int) - 1 = (n : Int) := by omega
    obtain ⟨x0, hx0⟩ : ∃ x, x = xs.getD n 0 := ⟨_, rfl⟩
    rw [← hx0] at hc0 hn2
    have HX0 := Lib.hid hx0
    clear htop hx0 hn1
    go_enter Tryd.func51, Tryd.ntmps51
    go_wp2
    go_loopw [7, 8] (fun l i wr => ∃ (k L : Nat) (os : List Nat), k ≤ n ∧ i = .int .i64 ((k : Int) - 1) ∧ l = .int .u32 L ∧ L < d ∧ Hid (IsDig os ∧ k + os.length = n ∧ num (xs.drop k) = d * num os + L) ∧ Hid (Blk wr g (splice ds (o + k) os) ∧ w.grownBy wr (some g))) (fun _ i _ => (intOf i + 1).toNat)
    case atStart =>
      refine ⟨n, x0, [], Nat.le_refl _, by go_num, rfl, hn2, ⟨isDig_nil, by simp, ?_⟩, by rw [splice_nil]; exact HG.out, only_refl _ _⟩
      have hN := HN.out
      rw [num_drop, List.drop_of_length_le (by have := HTOP.out; omega), ← HX0.out]; simp [num]
    case round =>
      obtain ⟨k, L, os, hk, rfl, rfl, hL, hv, hb⟩ := hrel
      rcases k with _ | j
      · have h3 := hv.out.2.2
        rw [List.drop_zero] at h3
        obtain ⟨e1, e2⟩ := HF.out os L hL h3
        have HE := Lib.hid (And.intro e1 e2)
        clear h3 e1 e2
        go_wp2
        go_ret
        exact ⟨os, by rw [← HE.out.2]; rfl, by have := hv.out.2.1; omega, hv.out.1, HE.out.1, hb.out.1, hb.out.2⟩
      · have e : ((j + 1 : Nat) : Int) - 1 = (j : Int) := by omega
        rw [e]
        clear e
        have hN := HN.out
        have hj : j < n := by omega
        obtain ⟨b, p, eA, hcell⟩ := HRD.out wr (j + 1) os hv.out.2.1 hb.out.1 hb.out.2 j (by omega)
        injection eA with eA
        injection eA with eA1 eA2
        subst eA1 eA2
        have hx1 := getD_lt HD.out j
        obtain ⟨s1, s2, s3⟩ := byDigit_step hL hx1 hv.out.2.2
        have hlen : (splice ds (o + (j + 1)) os).length = ds.length := by rw [splice_len (by have := hv.out.2.1; omega)]
        have g1 := hb.out.1.cell (i := o + j) (by omega)
        have g2 := hb.out.1.frozen (o + j)
        obtain ⟨x, hx⟩ : ∃ d, d = xs.getD j 0 := ⟨_, rfl⟩
        rw [← hx] at hcell hx1 s1 s2 s3
        obtain ⟨q, hq⟩ : ∃ s, s = (L * 4294967296 + x) / d := ⟨_, rfl⟩
        obtain ⟨r, hrr⟩ : ∃ s, s = (L * 4294967296 + x) % d := ⟨_, rfl⟩
        have HA := Lib.hid fun W => Bits.div32 L x d q r W hx1 hd hL hq hrr
        rw [← hq] at s2
        rw [← hq, ← hrr] at s1
        rw [← hrr] at s3
        have hset := hb.out.1.set (i := o + j) (d := q) (by omega) s2
        have e1 := splice_set_down (ds := ds) (j := o + j) (d := q) (outs := os) (by omega)
        rw [← Nat.add_assoc] at hset
        rw [e1] at hset
        obtain ⟨z, hz⟩ : ∃ d, d = (splice ds (o + (j + 1)) os).getD (o + j) 0 := ⟨_, rfl⟩
        rw [← hz] at g1
        have HS := Lib.hid (And.intro s1 (And.intro hset (only_set (i := o + j) hb.out.2 (.int .u32 (q : Int)))))
        clear hx hq hrr s1 hset e1 hz hlen hN
        go_wp2_with (go_at_call 63; (with_reducible refine (HA.out _).mono ?_); rintro e w1 ⟨rfl, nn, rfl⟩)
        go_roundw
        case rel => exact ⟨j, r, q :: os, by omega, rfl, rfl, s3, ⟨isDig_cons s2 hv.out.1, by have := hv.out.2.1; simp; omega, HS.out.1⟩, HS.out.2.1, only_set (only_drewN hb.out.2 nn) _⟩
        case measure => simp [intOf] <;> omega

/-- a part of a slice from a place on -/
theorem row_tail {w : World} {b o n c k : Nat} {xs : List Nat} (h : Row w (.slice (some ⟨b, o, none⟩) n c) xs) (hk : k ≤ n) : Row w (.slice (some ⟨b, o + k, none⟩) (n - k) (c - k)) (xs.drop k) := by
  obtain ⟨hd, A, c', e, hc, hcap⟩ := h
  injection e with e1 e2 e3
  subst e1
  refine ⟨isDig_drop hd k, some ⟨b, o + k, none⟩, c - k, by rw [List.length_drop, ← e2], fun hl => ⟨b, o + k, rfl, fun i hi => ?_⟩, by rw [List.length_drop]; omega⟩
  rw [List.length_drop] at hl hi
  obtain ⟨b', o', e4, hcc⟩ := hc (by omega)
  injection e4 with e4
  injection e4 with e5 e6
  subst e5 e6
  have := hcc (k + i) (by omega)
  rw [Nat.add_assoc, this]
  simp [List.getD, List.getElem?_drop]

set_option maxRecDepth 100000 in
theorem quotientLength_any (va vb : Value) (xs ys : List Nat) (w : World) (hx : Row w va xs) (hy : Row w vb ys) (lx : xs.length ≤ 10000) (hle : ys.length ≤ xs.length) (h0 : ys.length ≠ 0) :
    Calls Tryd.prog 50 #[va, vb] w fun e w' => e = .returned (.int .i64 ((qlen xs ys : Nat) : Int)) ∧ ∃ n, w' = w.drewN n := by
  have HX := Lib.hid hx
  have HY := Lib.hid hy
  obtain ⟨dx, A, cA, rfl, hcx, hcap⟩ := hx
  obtain ⟨dy, B, cB, rfl, hcy, -⟩ := hy
  obtain ⟨b, o, rfl, -⟩ := hcx (by omega)
  obtain ⟨n, hn⟩ : ∃ n, n = xs.length := ⟨_, rfl⟩
  obtain ⟨m, hm⟩ : ∃ n, n = ys.length := ⟨_, rfl⟩
  obtain ⟨l, hl⟩ : ∃ l, l = n - m := ⟨_, rfl⟩
  rw [← hn] at HX lx hle hcap ⊢
  rw [← hm] at HY hle h0 ⊢
  have hlm : n - l = m := by omega
  have hC := Lib.hid fun (W : World) (h : Row W (.slice (some ⟨b, o, none⟩) n cA) xs) (h2 : Row W (.slice B m cB) ys) => compare_any (.slice (some ⟨b, o + l, none⟩) (n - l) (cA - l)) (.slice B m cB) (xs.drop l) ys W (row_tail h (by omega)) h2 (by simp; omega) (by omega)
  have hq : qlen xs ys = if 0 ≤ cmpL (xs.drop l) ys then l + 1 else l := by unfold qlen; rw [← hn, ← hm, ← hl]
  obtain ⟨C, hCC⟩ : ∃ c, c = cmpL (xs.drop l) ys := ⟨_, rfl⟩
  rw [← hCC] at hC hq
  have li : (n : Int) - (m : Int) = (l : Int) := by omega
  have l1 : (0 : Int) ≤ (l : Int) := by omega
  have l2 : (l : Int) ≤ (n : Int) := by omega
  have l3 : cA ≠ l := by omega
  obtain ⟨Q, hQ⟩ : ∃ q, q = qlen xs ys := ⟨_, rfl⟩
  rw [← hQ] at hq ⊢
  rw [hlm] at hC
  clear dx dy hcx hcy hn hm hl hCC hQ h0
  by_cases hc : 0 ≤ C
  · rw [if_pos hc] at hq
    subst hq
    go_enter Tryd.func50, Tryd.ntmps50
    go_wp2_with (go_at_call 35; (with_reducible refine (hC.out _ HX.out HY.out).mono ?_); rintro e w1 ⟨rfl, nn, rfl⟩)
    go_ret
    exact ⟨rfl, nn, rfl⟩
  · rw [if_neg hc] at hq
    have hc2 : C < 0 := by omega
    subst hq
    clear hc
    go_enter Tryd.func50, Tryd.ntmps50
    go_wp2_with (go_at_call 35; (with_reducible refine (hC.out _ HX.out HY.out).mono ?_); rintro e w1 ⟨rfl, nn, rfl⟩)
    go_ret
    exact ⟨rfl, nn, rfl⟩
end Go.Proofs.YtkceldnljppflaaDoor.Nat02
