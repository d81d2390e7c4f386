/- Layer 11 (sense): the landed holds, of all kinds; Holds and Sum. Layer 11 (sense): the document's own linear,  -/
import Derived.Test.YtoegbgkgenjplaaKr
set_option linter.unusedVariables false
set_option linter.unusedSimpArgs false
section
namespace Go.Proofs.Ytoegbgkgenjplaa.Sn
open Go.RowKit
open Go.Proofs.Ytoegbgkgenjplaa.Dig Go.Proofs.Ytoegbgkgenjplaa.Lx Go.Proofs.Ytoegbgkgenjplaa.Tk Go.Proofs.Ytoegbgkgenjplaa.Ti Go.Proofs.Ytoegbgkgenjplaa.Zs Go.Proofs.Ytoegbgkgenjplaa.Tr
theorem sum_le {k : Int} {n m : Nat} (h : shp k n m = true) (hk : 1 ≤ k ∧ k ≤ 6) : m ≤ n := by
  unfold shp at h
  repeat (split at h; · simp only [decide_eq_true_eq] at h; omega)
  cases h
end Go.Proofs.Ytoegbgkgenjplaa.Sn
end
section
namespace Go.Proofs.Ytoegbgkgenjplaa.Sn
open Go.RowKit
open Go.Proofs.Ytoegbgkgenjplaa.Dig Go.Proofs.Ytoegbgkgenjplaa.Lx Go.Proofs.Ytoegbgkgenjplaa.Tk Go.Proofs.Ytoegbgkgenjplaa.Ti Go.Proofs.Ytoegbgkgenjplaa.Zs Go.Proofs.Ytoegbgkgenjplaa.Tr
def linV (k n c fl : Int) : Bool := if k = 1 then n == c else if k = 2 then decide (n ≤ c) else if k = 3 then n != c else if k = 4 then (fl == 1) == (n == c) else if k = 5 then (fl == 1) == decide (n ≤ c) else (fl == 0) || decide (n ≤ c)
theorem rlinear_any (k : Int) (w : World) : Calls Try.prog 42 #[.int .i64 k] w (fun e w' => e = .returned (.bool (decide (1 ≤ k ∧ k ≤ 6))) ∧ w' = w) := by
  by_cases c1 : 1 ≤ k
  · by_cases c2 : k ≤ 6
    · rw [decide_eq_true ⟨c1, c2⟩]
      go_enter Try.func42, Try.ntmps42
      go_wp2
      go_ret
      exact ⟨rfl, rfl⟩
    · rw [decide_eq_false (fun e => c2 e.2)]
      go_enter Try.func42, Try.ntmps42
      go_wp2
      go_ret
      exact ⟨rfl, rfl⟩
  · rw [decide_eq_false (fun e => c1 e.1)]
    go_enter Try.func42, Try.ntmps42
    go_wp2
    go_ret
    exact ⟨rfl, rfl⟩
set_option maxRecDepth 20000 in
set_option maxHeartbeats 3000000 in
theorem rlin_any (v vv : Value) (c : Cn) (l : List Int) (fl : Int) (w : World) (h : ConAt w v c) (hv : Sl 1 QI w vv l) (hn : c.a.length ≤ l.length) (hl : c.a.length ≤ 1000) (hwa : c.a.all within = true) (hwv : l.all within = true) (hk : 1 ≤ c.k ∧ c.k ≤ 6) :
    Calls Try.prog 47 #[v, vv, .int .i64 fl] w (RetT (linV c.k (sm c.a l) c.c fl) w) := by
  obtain ⟨n, hns⟩ : ∃ n, sm c.a l = n := ⟨_, rfl⟩
  have SM := Lib.hid (fun W (k : Since w W) => by have := rsum_any v vv c l W (h.since k) (hv.since stI k) hn hl hwa hwv; rw [hns] at this; exact this)
  rw [hns]
  obtain ⟨vx, vy, rfl, h1, h2⟩ := h
  obtain ⟨ck, cx, ca, cc⟩ := c
  simp only at *
  obtain ⟨X, xc, rfl⟩ := h1.form
  obtain ⟨Y, yc, rfl⟩ := h2.form
  obtain ⟨V, vc, rfl⟩ := hv.form
  generalize cx.length = nx at *
  generalize ca.length = na at *
  generalize l.length = nv at *
  have ka := Lib.hid (since_alloc w (.cells #[.int .i64 ck, .slice X nx xc, .slice Y na yc, .int .i64 cc] 25))
  have BC := Lib.hid (Bx.fresh w #[.int .i64 ck, .slice X nx xc, .slice Y na yc, .int .i64 cc] 25)
  have hk6 : ck = 1 ∨ ck = 2 ∨ ck = 3 ∨ ck = 4 ∨ ck = 5 ∨ ck = 6 := by omega
  clear h1 h2 hv hn hl hwa hwv hns hk
  rcases hk6 with rfl | rfl | rfl | rfl | rfl | rfl
  all_goals
    go_enter Try.func47, Try.ntmps47
    go_wp2_with (go_at_call 44; (with_reducible refine (SM.out _ ka.out).mono ?_); rintro e w1 ⟨rfl, k1⟩; have K1 := Lib.hid k1; obtain ⟨b0, b1, b2, b3⟩ := bx4 (BC.out.since k1); clear k1)
    all_goals
      go_ret
      refine RetT.of ?_ (ka.out.trans K1.out)
      first | rfl | (simp [linV]; done) | (simp_all [linV]; done) | (by_cases e1 : n = cc <;> by_cases e2 : n ≤ cc <;> by_cases e3 : fl = 1 <;> by_cases e4 : fl = 0 <;> simp [linV, e1, e2, e3, e4])
theorem shp_num {k : Int} {n m : Nat} (h : shp k n m = true) (hk : 1 ≤ k ∧ k ≤ 6) : m ≤ n := sum_le h hk
section
open Go.RowKit
open Go.Proofs.Ytoegbgkgenjplaa.Dig Go.Proofs.Ytoegbgkgenjplaa.Lx Go.Proofs.Ytoegbgkgenjplaa.Tk Go.Proofs.Ytoegbgkgenjplaa.Ti Go.Proofs.Ytoegbgkgenjplaa.Zs Go.Proofs.Ytoegbgkgenjplaa.Tr
theorem Rb.sl {w0 w : World} {v : Value} {xs : List Int} (h : Rb w0 w v xs) : Sl 1 QI w v xs := by
  obtain ⟨b1, h1, h2⟩ := h
  exact (Rz.of h2).sl
theorem rvalues_at {v va : Value} {c : Cn} {a : List Int} {w : World} (h : ConAt w v c) (ha : Sl 1 QI w va a) (hx : c.x.length ≤ 32) (hin : inR c.x a = true) (W : World) (k : Since w W) :
    Calls Try.prog 45 #[v, va] W (fun e w' => ∃ B bc, e = .returned (.slice B c.x.length bc) ∧ Rb w w' (.slice B c.x.length bc) (vals c.x a) ∧ Since W w') :=
  (rvalues_any v va c a W (h.since k) (ha.since stI k) (by omega) hin).mono fun e w' ⟨B, bc, h1, h2⟩ => ⟨B, bc, h1, ⟨W, k, h2⟩, h2.s⟩
end
section
open Go.Proofs.Ytoegbgkgenjplaa.Zs
theorem last_bit {k : Int} {v : List Int} (h : (bools k v).all bit = true) (hp : 0 < v.length) (hk : k = 4 ∨ k = 5 ∨ k = 6 ∨ k = 11 ∨ k = 12 ∨ k = 13 ∨ k = 14) : lastV v = 0 ∨ lastV v = 1 := by
  have hm : lastV v ∈ bools k v := by
    have e : lastV v = v[v.length - 1] := by simp [lastV, List.getD, show v.length - 1 < v.length by omega]
    rw [e]
    unfold bools
    by_cases c : k = 4 ∨ k = 5 ∨ k = 6
    · rw [if_pos c, List.drop_eq_getElem_cons (by omega)]; exact List.mem_cons_self
    · rw [if_neg c, if_pos (by omega)]; exact List.getElem_mem _
  exact (bit_iff _).1 (List.all_eq_true.1 h _ hm)
theorem hold_lin {k : Int} {v a : List Int} {c : Int} (hk : 1 ≤ k ∧ k ≤ 6) (h : askV k v a c = true) : linV k (sm a v) c (lastV v) = holdV k v a c := by
  obtain ⟨p1, p2, p3, p4, p5, p6, p7, p8⟩ := askV_all h
  have hk6 : k = 1 ∨ k = 2 ∨ k = 3 ∨ k = 4 ∨ k = 5 ∨ k = 6 := by omega
  rcases hk6 with rfl | rfl | rfl | rfl | rfl | rfl
  · rfl
  · rfl
  · rfl
  · rfl
  · rfl
  · show ((lastV v == 0) || decide (sm a v ≤ c)) = (!(lastV v == 1) || decide (sm a v ≤ c))
    have := shp_pos p2 (by omega)
    rcases last_bit p8 (by omega) (by omega) with e | e <;> rw [e] <;> rfl
end
end Go.Proofs.Ytoegbgkgenjplaa.Sn
end
