/- Layer 11 (sense): what the laws lean on. -/
import Derived.Test.YtakfabaocgbbmaaUv
import Derived.Test.YtakfabaocgbbmaaUwf
import Derived.Test.YtakfabaocgbbmaaUwm
import Derived.Test.YtakfabaocgbbmaaUx
import Derived.Test.YtakfabaocgbbmaaUy
namespace Go.Proofs.Ytakfabaocgbbmaa.Sn
open Go.RowKit
set_option linter.unusedVariables false
set_option linter.unusedSimpArgs false
open Go.Proofs.Ytakfabaocgbbmaa.Dig Go.Proofs.Ytakfabaocgbbmaa.Lx Go.Proofs.Ytakfabaocgbbmaa.Tk Go.Proofs.Ytakfabaocgbbmaa.Ti Go.Proofs.Ytakfabaocgbbmaa.Zs Go.Proofs.Ytakfabaocgbbmaa.Tr

theorem con_open {w : World} {k : Int} {X : Option Addr} {n xc : Nat} {Y : Option Addr} {m yc : Nat} {e : Int} {c : Cn} (h : ConAt w (.agg #[.int .i64 k, .slice X n xc, .slice Y m yc, .int .i64 e]) c) :
    k = c.k ∧ e = c.c ∧ Sl 1 QI w (.slice X n xc) c.x ∧ Sl 1 QI w (.slice Y m yc) c.a ∧ n = c.x.length ∧ m = c.a.length := by
  obtain ⟨vx, va, h1, h2, h3⟩ := h
  injection h1 with h1
  have h1 : [Value.int .i64 k, .slice X n xc, .slice Y m yc, .int .i64 e] = [.int .i64 c.k, vx, va, .int .i64 c.c] := congrArg Array.toList h1
  simp only [List.cons.injEq, and_true, Value.int.injEq, true_and] at h1
  obtain ⟨r1, rfl, rfl, r2⟩ := h1
  exact ⟨r1, r2, h2, h3, h2.at_.1, h3.at_.1⟩
theorem mod_open {w : World} {D : Option Addr} {n dc : Nat} {C : Option Addr} {k cc : Nat} {ask goal : Int} {m : Md} (h : ModAt w (.agg #[.slice D n dc, .slice C k cc, .int .i64 ask, .int .i64 goal]) m) :
    ask = m.ask ∧ goal = m.goal ∧ Sl 1 QD w (.slice D n dc) m.ds ∧ Sl 4 QC w (.slice C k cc) m.cs ∧ n = m.ds.length ∧ k = m.cs.length := by
  obtain ⟨vx, va, h1, h2, h3⟩ := h
  injection h1 with h1
  have h1 : [Value.slice D n dc, .slice C k cc, .int .i64 ask, .int .i64 goal] = [vx, va, .int .i64 m.ask, .int .i64 m.goal] := congrArg Array.toList h1
  simp only [List.cons.injEq, and_true, Value.int.injEq, true_and] at h1
  obtain ⟨rfl, rfl, r1, r2⟩ := h1
  exact ⟨r1, r2, h2, h3, h2.at_.1, h3.at_.1⟩
theorem holds_at {v va : Value} {c : Cn} {a : List Int} {w : World} (h : ConAt w v c) (ha : Sl 1 QI w va a) (hca : c.a.length ≤ 1100000) (hla : a.length ≤ 1100000) {b : Bool} (hb : holds c a = b) (W : World) (k : Since w W) : Calls Try.prog 29 #[v, va] W (fun e w' => e = .returned (.bool b) ∧ Since W w' ∧ True) := by
  subst hb
  exact (sholds_any v va c a W (h.since k) (ha.since stI k) hca hla).mono fun e w' h => ⟨h.1, h.2, trivial⟩
theorem better_at {v va vb : Value} {m : Md} {a b : List Int} {w : World} (h : ModAt w v m) (ha : Sl 1 QI w va a) (hb : Sl 1 QI w vb b) (hs : SzM m) (hla : a.length ≤ 1100000) (hlb : b.length ≤ 1100000) {r : Bool} (hr : betterOf m a b = r) (W : World) (k : Since w W) : Calls Try.prog 34 #[v, va, vb] W (fun e w' => e = .returned (.bool r) ∧ Since W w' ∧ True) := by
  subst hr
  exact (sbetter_any v va vb m a b W (h.since k) (ha.since stI k) (hb.since stI k) hs hla hlb).mono fun e w' h => ⟨h.1, h.2, trivial⟩
theorem mlen {n : Nat} (h : n ≤ maxLen) : n ≤ 9223372036854775807 := h
theorem few_same {c : Cn} {a : List Int} {k : Nat} (hk : k < a.length) (v : Int) (h : ∀ x ∈ c.x, x ≠ (k : Int)) : holds c a = holds c (a.set k v) := by
  have hi : inR c.x (a.set k v) = inR c.x a := by simp [inR]
  cases hr : inR c.x a with
  | false =>
    have e1 : asked c a = false := by rw [asked, hr]; rfl
    have e2 : asked c (a.set k v) = false := by rw [asked, hi, hr]; rfl
    rw [holds, holds, e1, e2]; rfl
  | true =>
    have ev : vals c.x (a.set k v) = vals c.x a := by
      refine List.map_congr_left fun x hx => ?_
      have h1 := List.all_eq_true.1 hr x hx
      have h2 := h x hx
      simp only [isV, Bool.and_eq_true, decide_eq_true_eq] at h1
      simp only [valAt]
      have h3 : k ≠ x.toNat := by omega
      simp [List.getD, List.getElem?_set_ne h3]
    rw [holds, holds, asked, asked, hi, ev]
theorem better_self (m : Md) (a : List Int) : betterOf m a a = false := by
  unfold betterOf
  have : (if m.ask = 1 then decide (valAt a m.goal < valAt a m.goal) else if m.ask = 2 then decide (valAt a m.goal < valAt a m.goal) else false) = false := by
    split
    · simp
    · split <;> simp
  rw [this, Bool.and_false]
theorem better_parts {m : Md} {a b : List Int} (h : betterOf m a b = true) : modOk m = true ∧ a.length = m.ds.length ∧ b.length = m.ds.length ∧ ((m.ask = 1 ∧ valAt a m.goal < valAt b m.goal) ∨ (m.ask = 2 ∧ valAt b m.goal < valAt a m.goal)) := by
  simp only [betterOf, Bool.and_eq_true, decide_eq_true_eq] at h
  obtain ⟨⟨⟨h1, h2⟩, h3⟩, h4⟩ := h
  refine ⟨h1, h2, h3, ?_⟩
  split at h4
  · rename_i e; exact .inl ⟨e, of_decide_eq_true h4⟩
  · split at h4
    · rename_i e; exact .inr ⟨e, of_decide_eq_true h4⟩
    · cases h4
theorem better_anti {m : Md} {a b : List Int} (h : betterOf m a b = true) : betterOf m b a = false := by
  cases h2 : betterOf m b a with
  | false => rfl
  | true =>
    have p := (better_parts h).2.2.2
    have q := (better_parts h2).2.2.2
    omega
theorem better_trans {m : Md} {a b c : List Int} (h : betterOf m a b = true) (h2 : betterOf m b c = true) : betterOf m a c = true := by
  obtain ⟨p1, p2, p3, p4⟩ := better_parts h
  obtain ⟨q1, q2, q3, q4⟩ := better_parts h2
  have hl : (if m.ask = 1 then decide (valAt a m.goal < valAt c m.goal) else if m.ask = 2 then decide (valAt c m.goal < valAt a m.goal) else false) = true := by
    rcases p4 with p4 | p4
    · rw [if_pos p4.1]; simp only [decide_eq_true_eq]; omega
    · rw [if_neg (by omega), if_pos p4.1]; simp only [decide_eq_true_eq]; omega
  rw [betterOf, p1, hl, decide_eq_true p2, decide_eq_true q3]; rfl
end Go.Proofs.Ytakfabaocgbbmaa.Sn
