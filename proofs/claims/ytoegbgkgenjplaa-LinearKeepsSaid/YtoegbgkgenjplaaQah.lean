/- Layer 9 (set): the ways in which the calls of a set end. Layer 9 (set): slices.Equal on ranges, Same, the land -/
import Derived.Test.YtoegbgkgenjplaaEc
set_option linter.unusedVariables false
set_option linter.unusedSimpArgs false
section
namespace Go.Proofs.Ytoegbgkgenjplaa.Zs
open Go.RowKit
open Go.Proofs.Ytoegbgkgenjplaa.Dig Go.Proofs.Ytoegbgkgenjplaa.Lx Go.Proofs.Ytoegbgkgenjplaa.Tk Go.Proofs.Ytoegbgkgenjplaa.Ti
/-- ends in a value, or in none -/
def RetN (r : Option Int) (w : World) (e : Ending) (w' : World) : Prop := e = .returned (.tuple #[.int .i64 (r.getD 0), .bool r.isSome]) ∧ Since w w'
theorem RetN.no {r : Option Int} {w w' : World} (h : none = r) (k : Since w w') : RetN r w (.returned (.tuple #[.int .i64 0, .bool false])) w' := by subst h; exact ⟨rfl, k⟩
theorem RetN.yes {r : Option Int} {x : Int} {w w' : World} (h : some x = r) (k : Since w w') : RetN r w (.returned (.tuple #[.int .i64 x, .bool true])) w' := by subst h; exact ⟨rfl, k⟩
theorem right_at {v : Value} {l : List Rn} {w : World} (h : Sl 2 QR w v l) (hl : l.length ≤ 1100000) (hb : Bd l) {R : Bool} (hR : right l = R) (W : World) (k : Since w W) :
    Calls Try.prog 131 #[v] W (RetT R W) := by subst hR; exact right_any v l W (h.since stR k) hl hb
theorem right_full {l : List Rn} (h : right l = true) : full l := full_right h (Int.le_refl _)
/-- ends in a number -/
def RetI (z : Int) (w : World) (e : Ending) (w' : World) : Prop := e = .returned (.int .i64 z) ∧ Since w w'
theorem RetI.of {z z' : Int} {w w' : World} (h : z = z') (k : Since w w') : RetI z' w (.returned (.int .i64 z)) w' := ⟨by rw [h], k⟩
/-- ends in a range, or in none -/
def RetE (r : Option Rn) (w : World) (e : Ending) (w' : World) : Prop := e = .returned (.tuple #[.agg #[.int .i64 (r.getD (0, 0)).1, .int .i64 (r.getD (0, 0)).2], .bool r.isSome]) ∧ Since w w'
/-- ends in a row of the call's own -/
def RetW (w0 W : World) (v : Value) (ys : List Rn) (e : Ending) (w' : World) : Prop := ∃ A m c, e = .returned (.slice A m c) ∧ ys.length = m ∧ Rw w0 w' (.slice A m c) ys ∧ Keep v W w'
/-- ends in ranges -/
def RetS (ys : List Rn) (w : World) (e : Ending) (w' : World) : Prop := ∃ A m c, e = .returned (.slice A m c) ∧ ys.length = m ∧ Sl 2 QR w' (.slice A m c) ys ∧ Since w w'
theorem RetS.of {ys xs : List Rn} {w w' : World} {A : Option Addr} {m c : Nat} (h : xs = ys) (hm : xs.length = m) (k : Rw w w' (.slice A m c) xs) : RetS ys w (.returned (.slice A m c)) w' := by
  subst h; exact ⟨A, m, c, rfl, hm, k.sl, k.2⟩
theorem RetS.none {ys : List Rn} {w w' : World} (h : ys = []) (k : Since w w') : RetS ys w (.returned (.slice none 0 0)) w' := by
  subst h; exact ⟨_, 0, 0, rfl, rfl, Sl.nil _ _ _, k⟩
theorem owns_frozen {w : World} {base : Nat} {e : TypeId} {size : Nat} {v : Value} {n : Nat} {xs : List Value} (h : w.ownsRow base e size v n xs) {g : Nat} (hg : v.ownBlock = some g) (j : Nat) : w.frozen? ⟨g, j, none⟩ = false := by
  rcases h.2 with ⟨h1, -⟩ | ⟨a, cap, cur, h1, -, h3, -⟩
  · rw [h1] at hg; cases hg
  rw [h1] at hg
  cases hg
  simp [World.frozen?, h3]
/-- ends in ranges, in memory of the call's own -/
def RetF (ys : List Rn) (w : World) (e : Ending) (w' : World) : Prop := ∃ A m c, e = .returned (.slice A m c) ∧ ys.length = m ∧ Sl 2 QR w' (.slice A m c) ys ∧ Since w w' ∧ ∀ b, (Value.slice A m c).ownBlock = some b → w.heap.size ≤ b ∧ b < w'.heap.size ∧ ∀ j, w'.frozen? ⟨b, j, none⟩ = false
theorem RetF.of {ys xs : List Rn} {w w' : World} {A : Option Addr} {m c : Nat} (h : xs = ys) (hm : xs.length = m) (k : Rw w w' (.slice A m c) xs) : RetF ys w (.returned (.slice A m c)) w' := by
  subst h; exact ⟨A, m, c, rfl, hm, k.sl, k.2, fun b hb => ⟨(k.1.lt b hb).1, (k.1.lt b hb).2, owns_frozen k.1 hb⟩⟩
theorem RetF.none {ys : List Rn} {w w' : World} (h : ys = []) (k : Since w w') : RetF ys w (.returned (.slice none 0 0)) w' := by
  subst h; exact ⟨_, 0, 0, rfl, rfl, Sl.nil _ _ _, k, fun b hb => by simp [Value.ownBlock] at hb⟩
theorem RetF.s {ys : List Rn} {w w' : World} {e : Ending} (h : RetF ys w e w') : RetS ys w e w' := by
  obtain ⟨A, m, c, h1, h2, h3, h4, -⟩ := h; exact ⟨A, m, c, h1, h2, h3, h4⟩
theorem one_len (lo hi : Int) : (one lo hi).length ≤ 1 := by unfold one; split <;> simp
theorem app_len (xs : List Rn) (lo hi : Int) : (xs ++ one lo hi).length ≤ xs.length + 1 := by rw [List.length_append]; have := one_len lo hi; omega
/-- ends in a truth value: whether P holds -/
def RetB (P : Prop) (w : World) (e : Ending) (w' : World) : Prop := ∃ r : Bool, e = .returned (.bool r) ∧ (r = true ↔ P) ∧ Since w w'
theorem upto' {α : Type} {xs ys : List α} {n : Nat} (hx : n = xs.length) (hy : n = ys.length) (h : ∀ j, j < n → xs[j]? = ys[j]?) : xs = ys := by
  apply List.ext_getElem?
  intro j
  rcases Nat.lt_or_ge j n with hj | hj
  · exact h j hj
  · rw [List.getElem?_eq_none (by omega), List.getElem?_eq_none (by omega)]
end Go.Proofs.Ytoegbgkgenjplaa.Zs
end
section
namespace Go.Proofs.Ytoegbgkgenjplaa.Zs
open Go.RowKit
open Go.Proofs.Ytoegbgkgenjplaa.Dig Go.Proofs.Ytoegbgkgenjplaa.Lx Go.Proofs.Ytoegbgkgenjplaa.Tk Go.Proofs.Ytoegbgkgenjplaa.Ti
set_option maxRecDepth 20000 in
set_option maxHeartbeats 4000000 in
theorem equal_any (v1 v2 : Value) (xs ys : List (Int × Int)) (w0 : World) (h1 : Sl 2 QR w0 v1 xs) (h2 : Sl 2 QR w0 v2 ys) (hl : ys.length ≤ 1100000) (w : World) (hs : Since w0 w) :
    Calls Try.prog 135 #[v1, v2] w (RetB (xs = ys) w) := by
  have h1 := h1.since stR hs
  have h2 := h2.since stR hs
  clear hs
  have H1 := Lib.hid h1
  have H2 := Lib.hid h2
  obtain ⟨A1, c1, rfl⟩ := h1.form
  obtain ⟨A2, c2, rfl⟩ := h2.form
  obtain ⟨n, hnn⟩ : ∃ n, n = xs.length := ⟨_, rfl⟩
  obtain ⟨m, hmm⟩ : ∃ m, m = ys.length := ⟨_, rfl⟩
  rw [← hnn] at H1 ⊢
  rw [← hmm] at H2 hl ⊢
  have HN := Lib.hid hnn
  have HM := Lib.hid hmm
  clear h1 h2 hnn hmm
  by_cases hnm : n = m
  · subst hnm
    go_enter Try.func135, Try.ntmps135
    go_wp2
    go_loopw [13] (fun i wr => ∃ k : Nat, i = .int .i64 (k : Int) ∧ k ≤ n ∧ Hid (∀ j, j < k → xs[j]? = ys[j]?) ∧ Hid (Since w wr)) (fun i _ => n - (intOf i).toNat)
    case atStart => exact ⟨0, rfl, Nat.zero_le _, fun j hj => absurd hj (Nat.not_lt_zero _), Since.refl _⟩
    case round =>
      obtain ⟨k, rfl, hk, HJ, HS⟩ := hrel
      by_cases hkn : k < n
      · have k1 : k < xs.length := by have := HN.out; omega
        have k2 : k < ys.length := by have := HM.out; omega
        obtain ⟨b1, o1, u1, rfl, q1, ul1, cs1⟩ := H1.out.el k1
        obtain ⟨b2, o2, u2, rfl, q2, ul2, cs2⟩ := H2.out.el k2
        have x1 : xs[k]? = some xs[k] := List.getElem?_eq_getElem k1
        have x2 : ys[k]? = some ys[k] := List.getElem?_eq_getElem k2
        obtain ⟨y1, e1⟩ : ∃ y, y = xs[k] := ⟨_, rfl⟩
        obtain ⟨y2, e2⟩ : ∃ y, y = ys[k] := ⟨_, rfl⟩
        rw [← e1] at q1 x1
        rw [← e2] at q2 x2
        obtain ⟨lo1, hi1⟩ := y1
        obtain ⟨lo2, hi2⟩ := y2
        have up : ∀ {p : Addr} {u : Value}, w.cell? p = some u → wr.cell? p = some u := fun g => (HS.out.cell _ (World.block_lt_of_cell? _ _ g)).trans g
        simp only [QR] at q1 q2
        subst q1 q2
        have f0 := up (cs1 0 _ rfl)
        have f1 := up (cs1 1 _ rfl)
        have g0 := up (cs2 0 _ rfl)
        have g1 := up (cs2 1 _ rfl)
        rw [Nat.add_zero] at f0 g0
        have F0 : wr.drew.cell? _ = _ := f0
        have F1 : wr.drew.cell? _ = _ := f1
        have G0 : wr.drew.cell? _ = _ := g0
        have G1 : wr.drew.cell? _ = _ := g1
        have X1 := Lib.hid x1
        have X2 := Lib.hid x2
        clear up e1 e2 ul1 ul2 cs1 cs2 x1 x2
        by_cases hll : lo1 = lo2
        · by_cases hhh : hi1 = hi2
          · subst hll hhh
            go_wp2
            go_region
            all_goals go_wp2
            all_goals go_roundw
            case rel =>
              refine ⟨k + 1, by go_num, by omega, fun j hj => ?_, by first | exact HS.out | exact Since.drew HS.out⟩
              rcases Nat.lt_or_ge j k with h | h
              · exact HJ.out j h
              · obtain rfl : j = k := by omega
                rw [X1.out, X2.out]
            case measure => simp [intOf]; omega
          · have z2 : (hi1 == hi2) = false := by rw [beq_eq_false_iff_ne]; exact hhh
            subst hll
            have NO : ¬ xs = ys := fun e => hhh (by
              have := X1.out.symm.trans ((congrArg (fun l => l[k]?) e).trans X2.out)
              injection this with this; injection this)
            go_wp2
            go_region
            all_goals go_wp2
            all_goals go_ret
            all_goals exact ⟨false, rfl, ⟨fun h => (by cases h), fun h => absurd h NO⟩, by first | exact HS.out | exact Since.drew HS.out⟩
        · have z1 : (lo1 == lo2) = false := by rw [beq_eq_false_iff_ne]; exact hll
          have NO : ¬ xs = ys := fun e => hll (by
            have := X1.out.symm.trans ((congrArg (fun l => l[k]?) e).trans X2.out)
            injection this with this; injection this)
          go_wp2
          go_region
          all_goals go_wp2
          all_goals go_ret
          all_goals exact ⟨false, rfl, ⟨fun h => (by cases h), fun h => absurd h NO⟩, by first | exact HS.out | exact Since.drew HS.out⟩
      · obtain rfl : k = n := by omega
        have YES := upto' HN.out HM.out HJ.out
        go_wp2
        go_ret
        exact ⟨true, rfl, ⟨fun _ => YES, fun _ => rfl⟩, HS.out⟩
  · have NO : ¬ xs = ys := fun e => hnm (by rw [HN.out, HM.out, e])
    have z1 : ((n : Int) == (m : Int)) = false := by rw [beq_eq_false_iff_ne]; omega
    go_enter Try.func135, Try.ntmps135
    go_wp2
    go_ret
    exact ⟨false, rfl, ⟨fun h => (by cases h), fun h => absurd h NO⟩, Since.refl _⟩
theorem same_any (v1 v2 : Value) (l1 l2 : List Rn) (w : World) (h1 : Sl 2 QR w v1 l1) (h2 : Sl 2 QR w v2 l2) (hl1 : l1.length ≤ 1100000) (hl2 : l2.length ≤ 1100000) (hb : Bd l1) :
    Calls Try.prog 104 #[v1, v2] w (RetT (same l1 l2) w) := by
  obtain ⟨A1, c1, rfl⟩ := h1.form
  obtain ⟨A2, c2, rfl⟩ := h2.form
  have EA := Lib.hid (fun W (k : Since w W) => equal_any _ _ l1 l2 w h1 h2 hl2 W k)
  cases hr : right l1 with
  | false =>
    have RA := Lib.hid (right_at h1 hl1 hb hr)
    have e : same l1 l2 = false := by rw [same, hr]; rfl
    rw [e]
    clear h1 h2 hb hr e
    go_enter Try.func104, Try.ntmps104
    go_wp2_with (go_at_call 131; (with_reducible refine (RA.out _ (Since.refl _)).mono ?_); rintro e w1 ⟨rfl, k1⟩)
    go_ret
    exact ⟨rfl, k1⟩
  | true =>
    have RA := Lib.hid (right_at h1 hl1 hb hr)
    have e : same l1 l2 = decide (l1 = l2) := by rw [same, hr]; rfl
    rw [e]
    obtain ⟨P, hP⟩ : ∃ P, P = (l1 = l2) := ⟨_, rfl⟩
    have D := Lib.hid (fun (r : Bool) (h : r = true ↔ (l1 = l2)) => show r = decide (l1 = l2) by cases r <;> simp_all)
    clear h1 h2 hb hr e
    go_enter Try.func104, Try.ntmps104
    go_wp2_with (first
      | (go_at_call 131; (with_reducible refine (RA.out _ (Since.refl _)).mono ?_); rintro e w1 ⟨rfl, k1⟩)
      | (go_at_call 135; (with_reducible refine (EA.out _ k1).mono ?_); rintro e w2 ⟨r, rfl, hr, k2⟩))
    go_ret
    exact ⟨congrArg (fun b => Ending.returned (.bool b)) (D.out r hr), k1.trans k2⟩
end Go.Proofs.Ytoegbgkgenjplaa.Zs
end
