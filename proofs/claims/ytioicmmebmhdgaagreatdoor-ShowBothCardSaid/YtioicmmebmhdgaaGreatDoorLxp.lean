/- What strconv.ParseInt gives back of a number's bytes. -/
import Derived.Test.YtioicmmebmhdgaaGreatDoorLxs
import Derived.Deep.DeepCutAuto
import Derived.Laws.DeepStrings4
import Derived.Lib.ParseIntB
namespace Go.Proofs.YtioicmmebmhdgaaGreatDoor.Lex
open Go.RowKit
set_option linter.unusedVariables false
set_option linter.unusedSimpArgs false
open Go.Proofs.YtioicmmebmhdgaaGreatDoor.Dig Go.Proofs.YtioicmmebmhdgaaGreatDoor.Lx Go.Proofs.YtioicmmebmhdgaaGreatDoor.Tk

def AllDig (l : Bs) : Prop := ∀ c ∈ l, 48 ≤ c.toNat ∧ c.toNat ≤ 57
/-- the number of digits behind a number -/
def undecA (acc : Nat) (l : Bs) : Nat := l.foldl (fun n b => 10 * n + (b.toNat - 48)) acc
theorem undecA_ge : ∀ (l : Bs) (acc : Nat), acc ≤ undecA acc l
  | [], acc => Nat.le_refl _
  | c :: r, acc => by
    have := undecA_ge r (10 * acc + (c.toNat - 48))
    show acc ≤ undecA (10 * acc + (c.toNat - 48)) r
    omega
theorem uint_dig {M : Nat} (hM : M = 18446744073709551615) : ∀ (l : Bs) (acc : Nat), AllDig l → acc ≤ M → Lib.parseUintM M acc l = if undecA acc l ≤ M then .ok (undecA acc l) else .range
  | [], acc, _, h => by
    show Lib.NumEnd.ok acc = if acc ≤ M then .ok acc else .range
    rw [if_pos h]
  | c :: r, acc, hd, h => by
    have hc := hd c (by simp)
    have hr : AllDig r := fun x hx => hd x (by simp [hx])
    have e : undecA acc (c :: r) = undecA (10 * acc + (c.toNat - 48)) r := rfl
    have hge := undecA_ge r (10 * acc + (c.toNat - 48))
    rw [e, Lib.parseUintM, if_pos hc]
    by_cases h1 : 1844674407370955162 ≤ acc
    · rw [if_pos h1, if_neg (by omega)]
    rw [if_neg h1]
    by_cases h2 : M < acc * 10 + (c.toNat - 48)
    · rw [if_pos h2, if_neg (by omega)]
    rw [if_neg h2, uint_dig hM r _ hr (by omega), Nat.mul_comm acc 10]
theorem uint_all {l : Bs} (hd : AllDig l) (h : l ≠ []) : Lib.parseUintB 64 l = if undec l ≤ 18446744073709551615 then .ok (undec l) else .range := by
  unfold Lib.parseUintB
  rw [if_neg h]
  exact uint_dig (M := 2 ^ 64 - 1) (by decide) l 0 hd (Nat.zero_le _)
theorem int_plus {l : Bs} (hd : AllDig l) (h : l ≠ []) : Lib.parseIntB 64 l = if undec l < 9223372036854775808 then .ok (undec l : Int) else .range := by
  cases l with
  | nil => exact absurd rfl h
  | cons c r =>
    have hc := hd c (by simp)
    have e1 : ¬ (c.toNat = 43 ∨ c.toNat = 45) := by omega
    have e2 : ¬ c.toNat = 45 := by omega
    generalize hu : undec (c :: r) = u
    have h3 := uint_all hd h
    rw [hu] at h3
    unfold Lib.parseIntB
    have e3 : ¬ c.toNat = 43 := by omega
    simp only [e2, e3, or_self, if_false, not_false_eq_true, true_and, false_and, h3]
    by_cases h4 : u ≤ 18446744073709551615
    · rw [if_pos h4]
      simp only
      by_cases h5 : u < 9223372036854775808
      · rw [if_pos h5, if_neg (by simp only [Nat.reducePow, Nat.reduceSub]; omega)]
      · rw [if_neg h5, if_pos (by simp only [Nat.reducePow, Nat.reduceSub]; omega)]
    · rw [if_neg h4, if_neg (by omega)]
theorem int_minus {c : UInt8} {r : Bs} (hc : c.toNat = 45) (hd : AllDig r) (h : r ≠ []) : Lib.parseIntB 64 (c :: r) = if undec r ≤ 9223372036854775808 then .ok (-(undec r : Int)) else .range := by
  have e1 : c.toNat = 43 ∨ c.toNat = 45 := .inr hc
  generalize hu : undec r = u
  have h3 := uint_all hd h
  rw [hu] at h3
  unfold Lib.parseIntB
  simp only [hc, or_true, if_true, not_true_eq_false, true_and, false_and, if_false, h3]
  by_cases h4 : u ≤ 18446744073709551615
  · rw [if_pos h4]
    simp only
    by_cases h5 : u ≤ 9223372036854775808
    · rw [if_pos h5, if_neg (by simp only [Nat.reducePow, Nat.reduceSub]; omega)]
    · rw [if_neg h5, if_pos (by simp only [Nat.reducePow, Nat.reduceSub]; omega)]
  · rw [if_neg h4, if_neg (by omega)]
/-- a number's bytes -/
def NumBs (l : Bs) : Prop := (AllDig l ∧ l ≠ []) ∨ ∃ c r, l = c :: r ∧ c.toNat = 45 ∧ AllDig r ∧ r ≠ []
theorem parse_numbs {l : Bs} (h : NumBs l) : Lib.parseIntB 64 l = if fits (intD l) then .ok (intD l) else .range := by
  rcases h with ⟨h1, h2⟩ | ⟨c, r, rfl, hc, h1, h2⟩
  · rw [int_plus h1 h2]
    have e : intD l = (undec l : Int) := by
      unfold intD
      rw [if_neg]
      intro h3
      cases l with
      | nil => exact h2 rfl
      | cons c r =>
        have := h1 c (by simp)
        injection h3 with h3
        rw [h3] at this
        exact absurd this.1 (by decide)
    rw [e]
    by_cases h : undec l < 9223372036854775808
    · rw [if_pos h, if_pos (by unfold fits; omega)]
    · rw [if_neg h, if_neg (by unfold fits; omega)]
  · rw [int_minus hc h1 h2]
    have e : intD (c :: r) = -(undec r : Int) := by
      unfold intD
      rw [if_pos]
      · rfl
      · show some c = some 45
        rw [show c = 45 from UInt8.toNat_inj.1 hc]
    rw [e]
    by_cases h : undec r ≤ 9223372036854775808
    · rw [if_pos h, if_pos (by unfold fits; omega)]
    · rw [if_neg h, if_neg (by unfold fits; omega)]
theorem run_take_all (p : UInt8 → Bool) : ∀ l : Bs, ∀ c ∈ l.take (run p l), p c = true
  | [], c, h => by simp at h
  | a :: t, c, h => by
    by_cases ha : p a = true
    · simp only [run, if_pos ha, Nat.add_comm 1, List.take_succ_cons, List.mem_cons] at h
      rcases h with rfl | h
      · exact ha
      · exact run_take_all p t c h
    · simp [run, if_neg ha] at h
theorem dig_all {l : Bs} (h : ∀ c ∈ l, digB c = true) : AllDig l := fun c hc => by have := h c hc; simpa [digB] using this
theorem numbs_word {l : Bs} (h : (word l).1 = 2) : NumBs (l.take (word l).2) := by
  cases l with
  | nil => simp [word] at h
  | cons c t =>
    have hr := dig_all (run_take_all digB t)
    by_cases h1 : letterB c = true
    · simp [word, h1] at h
    by_cases h2 : digB c = true
    · have e : word (c :: t) = (2, run digB t + 1) := by simp only [word, if_neg h1, if_pos h2, Nat.add_comm]
      rw [e]
      show NumBs ((c :: t).take (run digB t + 1))
      rw [List.take_succ_cons]
      refine .inl ⟨?_, by simp⟩
      intro x hx
      rcases List.mem_cons.1 hx with rfl | hx
      · simpa [digB] using h2
      · exact hr x hx
    by_cases h3 : c.toNat = 45 ∧ 0 < run digB t
    · have e : word (c :: t) = (2, run digB t + 1) := by simp only [word, if_neg h1, if_neg h2, if_pos h3, Nat.add_comm]
      rw [e]
      show NumBs ((c :: t).take (run digB t + 1))
      rw [List.take_succ_cons]
      refine .inr ⟨c, _, rfl, h3.1, hr, ?_⟩
      intro h4
      have h5 : (t.take (run digB t)).length = 0 := by rw [h4]; rfl
      rw [List.length_take] at h5
      have h6 := run_le digB t
      omega
    · simp only [word, if_neg h1, if_neg h2, if_neg h3] at h
      split at h
      · simp at h
      split at h <;> simp at h
/-- the library's range error is there -/
def ErrIn (w : World) : Prop := ∃ ev, w.cell? ⟨1, 0, none⟩ = some ev ∧ (ev = .nilIface ∨ ∃ te pe, ev = .iface te pe)
theorem ErrIn.since {w w' : World} (h : ErrIn w) (k : Since w w') : ErrIn w' := by
  obtain ⟨ev, h1, h2⟩ := h
  exact ⟨ev, (k.cell _ (World.block_lt_of_cell? _ _ h1)).trans h1, h2⟩
theorem parse_yes (s : ByteArray) (k n : Nat) (w : World) (hs : s.size ≤ 100000) (h : word ((L s).drop k) = (2, n)) {v : Int} (hv : intD (((L s).drop k).take n) = v) (hf : fits v) :
    Calls Tryz.prog 52 #[.string (s.extract k (k + n)), .int .i64 10, .int .i64 64] w fun e w' => e = .returned (.tuple #[.int .i64 v, .nilIface]) ∧ Since w w' := by
  have hb := parse_numbs (numbs_word (l := (L s).drop k) (by rw [h]))
  rw [h] at hb
  simp only at hb
  rw [hv, if_pos hf] at hb
  have hL : (s.extract k (k + n)).data.toList = ((L s).drop k).take n := by
    have := L_extract s k (k + n) (by omega)
    rw [show k + n - k = n by omega] at this
    exact this
  rw [← hL] at hb
  refine (Sh.strconv_ParseInt_10_at64_ok (s.extract k (k + n)) (by rw [ByteArray.size_extract]; omega) v hb w).mono ?_
  rintro e w' ⟨rfl, hw⟩
  refine ⟨rfl, ?_⟩
  rcases hw with rfl | ⟨t, rfl⟩
  · exact Since.refl _
  · exact Lib.bytesWorld_below _ _ _
theorem parse_no (s : ByteArray) (k n : Nat) (w : World) (hw : ErrIn w) (hs : s.size ≤ 100000) (h : word ((L s).drop k) = (2, n)) (hf : ¬ fits (intD (((L s).drop k).take n))) :
    Calls Tryz.prog 52 #[.string (s.extract k (k + n)), .int .i64 10, .int .i64 64] w fun e w' => ∃ (x : Int) (N : Nat), e = .returned (.tuple #[.int .i64 x, .iface 161 (.pointer (some ⟨N, 0, none⟩))]) ∧ Since w w' := by
  have hb := parse_numbs (numbs_word (l := (L s).drop k) (by rw [h]))
  rw [h] at hb
  simp only at hb
  rw [if_neg hf] at hb
  have hL : (s.extract k (k + n)).data.toList = ((L s).drop k).take n := by
    have := L_extract s k (k + n) (by omega)
    rw [show k + n - k = n by omega] at this
    exact this
  rw [← hL] at hb
  obtain ⟨ev, h1, h2⟩ := hw
  refine (Sh.strconv_ParseInt_10_at64_range (s.extract k (k + n)) (by rw [ByteArray.size_extract]; omega) hb ev w h1 h2).mono ?_
  rintro e w' ⟨N, rfl, -, -, hx⟩
  exact ⟨_, N, rfl, hx⟩
end Go.Proofs.YtioicmmebmhdgaaGreatDoor.Lex
