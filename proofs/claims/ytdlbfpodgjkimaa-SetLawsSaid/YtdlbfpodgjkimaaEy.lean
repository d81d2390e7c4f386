/- Layer 9 (set): what the laws lean on: the functions' answers, told once for both. -/
import Derived.Test.YtdlbfpodgjkimaaEw
import Derived.Test.YtdlbfpodgjkimaaEx
namespace Go.Proofs.Ytdlbfpodgjkimaa.Zs
open Go.RowKit
set_option linter.unusedVariables false
set_option linter.unusedSimpArgs false
open Go.Proofs.Ytdlbfpodgjkimaa.Dig Go.Proofs.Ytdlbfpodgjkimaa.Lx Go.Proofs.Ytdlbfpodgjkimaa.Tk Go.Proofs.Ytdlbfpodgjkimaa.Ti

theorem of_right {l d : List Rn} (h : ofD [] l = some d) : right d = true := by
  rcases ofD_is (acc := []) (l := l) rfl with ⟨-, h2⟩ | ⟨f, d', -, h2, h3, -⟩
  · rw [h] at h2; cases h2
  · rw [h] at h2; injection h2 with h2; subst h2; exact h3
theorem ofD_len {acc l d : List Rn} (h : ofD acc l = some d) : d.length ≤ acc.length + l.length := by
  induction l generalizing acc with
  | nil => simp only [ofD, Option.some.injEq] at h; subst h; simp
  | cons r l ih =>
    rw [ofD] at h
    split at h
    · have := ih h; simp only [List.length_cons]; omega
    · split at h
      · have := ih h; have := joinT_len r false acc; simp only [List.length_cons, Bool.false_eq_true, if_false] at *; omega
      · cases h
/-- Of's answer, case by case -/
theorem RetO.noD {w w' : World} {e : Ending} (h : RetO none w e w') : ∃ A c, e = .returned (.tuple #[.slice A 0 c, .int .i64 2]) ∧ Sl 2 QR w' (.slice A 0 c) [] ∧ Since w w' := by
  obtain ⟨A, m, c, rfl, hm, h1, h2⟩ := h
  obtain rfl : m = 0 := hm.symm
  exact ⟨A, c, rfl, h1, h2⟩
theorem RetO.yesD {d : List Rn} {w w' : World} {e : Ending} (h : RetO (some d) w e w') : ∃ A m c, e = .returned (.tuple #[.slice A m c, .int .i64 0]) ∧ d.length = m ∧ Sl 2 QR w' (.slice A m c) d ∧ Since w w' := h
theorem of_no {v : Value} {l : List Rn} {w : World} (h : Sl 2 QR w v l) (hl : l.length ≤ 90000) (hR : ofD [] l = none) (W : World) (k : Since w W) : Calls Try.prog 11 #[v] W (fun e w' => ∃ A c, e = .returned (.tuple #[.slice A 0 c, .int .i64 2]) ∧ Sl 2 QR w' (.slice A 0 c) [] ∧ Since W w') :=
  (of_at h hl hR W k).mono fun e w' h => h.noD
theorem of_yes {v : Value} {l d : List Rn} {w : World} (h : Sl 2 QR w v l) (hl : l.length ≤ 90000) (hR : ofD [] l = some d) (W : World) (k : Since w W) : Calls Try.prog 11 #[v] W (fun e w' => ∃ A m c, e = .returned (.tuple #[.slice A m c, .int .i64 0]) ∧ d.length = m ∧ Sl 2 QR w' (.slice A m c) d ∧ Since W w') :=
  (of_at h hl hR W k).mono fun e w' h => h.yesD
theorem rof_no {v : Value} {l : List Rn} {w : World} (h : Sl 2 QR w v l) (hl : l.length ≤ 90000) (hR : ofD [] l = none) (W : World) (k : Since w W) : Calls Try.prog 12 #[v] W (fun e w' => ∃ A c, e = .returned (.tuple #[.slice A 0 c, .int .i64 2]) ∧ Sl 2 QR w' (.slice A 0 c) [] ∧ Since W w') := by
  have := rof_any v l W (h.since stR k) hl
  rw [hR] at this
  exact this.mono fun e w' h => h.noD
theorem rof_yes {v : Value} {l d : List Rn} {w : World} (h : Sl 2 QR w v l) (hl : l.length ≤ 90000) (hR : ofD [] l = some d) (W : World) (k : Since w W) : Calls Try.prog 12 #[v] W (fun e w' => ∃ A m c, e = .returned (.tuple #[.slice A m c, .int .i64 0]) ∧ d.length = m ∧ Sl 2 QR w' (.slice A m c) d ∧ Since W w') := by
  have := rof_any v l W (h.since stR k) hl
  rw [hR] at this
  exact this.mono fun e w' h => h.yesD
/-- the same ranges -/
theorem ranges_yes {v1 v2 : Value} {l : List Rn} {w : World} (h1 : Sl 2 QR w v1 l) (h2 : Sl 2 QR w v2 l) (hl : l.length ≤ 100000) : Calls Try.prog 13 #[v1, v2] w (RetT true w) := by
  have := ranges_any v1 v2 l l w h1 h2 hl
  rwa [decide_eq_true (rfl : l = l)] at this
theorem RetE.as {r : Option Rn} {q0 q1 : Int} {b : Bool} (h1 : r.getD (0, 0) = (q0, q1)) (h2 : r.isSome = b) {w w' : World} {e : Ending} (h : RetE r w e w') : e = .returned (.tuple #[.agg #[.int .i64 q0, .int .i64 q1], .bool b]) ∧ Since w w' := by
  unfold RetE at h; rw [h1, h2] at h; exact h
theorem RetN.as {r : Option Int} {x : Int} {b : Bool} (h1 : r.getD 0 = x) (h2 : r.isSome = b) {w w' : World} {e : Ending} (h : RetN r w e w') : e = .returned (.tuple #[.int .i64 x, .bool b]) ∧ Since w w' := by
  unfold RetN at h; rw [h1, h2] at h; exact h
theorem has_cut {l : List Rn} (h : right l = true) (lo hi v : Int) : has (cut l lo hi) v = (has l v && (decide (lo ≤ v) && decide (v ≤ hi))) := by
  rw [Bool.eq_iff_iff, has_iff, Bool.and_eq_true, has_iff, Bool.and_eq_true, decide_eq_true_eq, decide_eq_true_eq]
  obtain ⟨h1, h2⟩ := cut_ok l lo hi h
  rw [h2 v]
  exact ⟨fun k => ⟨⟨h, k.2.1⟩, k.2.2⟩, fun k => ⟨h1, k.1.2, k.2⟩⟩
theorem has_without {l : List Rn} (h : right l = true) (x v : Int) : has (without l x) v = (has l v && !decide (v = x)) := by
  rw [Bool.eq_iff_iff, has_iff, Bool.and_eq_true, has_iff, Bool.not_eq_true', decide_eq_false_iff_not]
  obtain ⟨h1, h2⟩ := without_ok l x h
  rw [h2 v]
  exact ⟨fun k => ⟨⟨h, k.2.1⟩, k.2.2⟩, fun k => ⟨h1, k.1.2, k.2⟩⟩
theorem has_meet {a c : List Rn} (ha : right a = true) (hc : right c = true) (v : Int) : has (meet a c) v = (has a v && has c v) := by
  rw [Bool.eq_iff_iff, has_iff, Bool.and_eq_true, has_iff, has_iff]
  obtain ⟨h1, h2⟩ := meet_ok ha hc
  rw [h2 v]
  exact ⟨fun k => ⟨⟨ha, k.2.1⟩, ⟨hc, k.2.2⟩⟩, fun k => ⟨h1, k.1.2, k.2.2⟩⟩
end Go.Proofs.Ytdlbfpodgjkimaa.Zs
